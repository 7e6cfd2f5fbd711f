/- Walks. -/
import Derived.Lib.Strings
import Derived.Test.YtiajhekdhhhghaaGreatDoorProg
import Derived.WalkKit
import Derived.WalkSpells
import Derived.WalkLawsBesides
import Derived.Below
import Derived.Lib.Hide
import Derived.Shelf.Strings.Builder1
import Derived.Shelf.Strings.Builder2
import Derived.Shelf.Strings.OnBuilder
import Derived.Shelf.Small.Wraps
import Derived.Shelf.Strings.BuilderF
import Derived.Shelf.Strings.BuilderK
import Derived.Shelf.Strings.Builder2Cap
import Derived.Shelf.Strconv.Itoa2
import Derived.Shelf.LaysM
import Derived.Shelf.Strconv.Clone
import Derived.Shelf.Strings.Prefix
import Derived.Shelf.Strings.BuilderCap
import Derived.Shelf.Slices.Turned
import Derived.Lib.IndexBytes
import Derived.Laws.AppendOwn
import Derived.Outline
import Derived.RegionTactic
import Derived.ChangeAlike
import Derived.Deep.Light
import Derived.OwnWalk
import Derived.Laws.OwnMore
import Derived.OrdersHeld
import Derived.Deep.RegionHeld
set_option linter.all false
set_option maxHeartbeats 8000000
set_option maxRecDepth 100000
namespace Go.RowKit
theorem Hid.o {p : Prop} (h : Hid p) : p := h
end Go.RowKit
namespace Go.Proofs.YtiajhekdhhhghaaGreatDoor
open Tryz
open Go
theorem bF:(false=true)=False:=by simp
theorem lC{α:Type}(a:α)(l m:List α):(a :: l)++m=a :: (l++m):=rfl
theorem lN{α:Type}(l:List α):[]++l=l:=rfl
theorem lA{α:Type}(l:List α):l++[]=l:=List.append_nil l
theorem lL{α:Type}{l m:List α}:(l++m).length=l.length+m.length:=List.length_append
theorem lO{α:Type}{a:α}{l:List α}:(a :: l).length=l.length+1:=rfl
theorem lZ{α:Type}:([]:List α).length=0:=rfl
theorem bO(b:Bool):(false || b)=b:=by simp
theorem bP(b:Bool):(b || false)=b:=by simp
theorem bT(b:Bool):(true && b)=b:=by simp
theorem bU(b:Bool):(true || b)=true:=by simp
theorem bN:(!false)=true:=rfl
theorem bA(b:Bool):(false && b)=false:=by simp
theorem bB(b:Bool):(b && false)=false:=by simp
theorem bV(b:Bool):(b || true)=true:=by simp
theorem bM:(!true)=false:=rfl
theorem bW(b:Bool):(b && true)=b:=by simp
theorem bE(a b:Bool):((a && b)=true)=(a=true/\b=true):=by simp
theorem hI{p:Prop}(h:p):RowKit.Hid p:=h
theorem nL{k n:Nat}(h:Nat.blt k n=true:=by rfl):k < n:=Nat.le_of_ble_eq_true h
theorem pZa{α:Type}(l:List α)(i:Nat)(a:α):l.toArray.setIfInBounds i a=(l.set i a).toArray:=List.setIfInBounds_toArray ..
theorem pZb{α:Type}(x a:α)(l:List α):(x :: l).set 0 a=a :: l:=rfl
theorem pZc{α:Type}(x a:α)(l:List α)(n:Nat):(x :: l).set (n+1) a=x :: l.set n a:=rfl
theorem cB{w w':World}{a:Addr}(h:w'.heap[a.block]? = w.heap[a.block]?):w'.cell? a=w.cell? a:=World.cell?_of_block h
theorem hS(w:World)(p:Addr)(v:Value)(g:Nat)(h:g≠p.block):(w.setCell p v).heap[g]? = w.heap[g]?:=RowKit.Below.heap_setCell w p v g h
theorem bD(w:World):RowKit.Below w.heap.size w w.drew:=(RowKit.Below.refl _ _).drew
def qZx(c:Int):Bool:=decide ((97<=c/\c<=122)\/(65<=c/\c<=90)\/c=95)
def qQa(c:Int):Int:=if 48<=c/\c<=57 then c - 48 else if 97<=c/\c<=102 then c - 97+10 else if 65<=c/\c<=70 then c - 65+10 else 16
def qQZ(c:Int):Bool:=qZx c || decide (qQa c < 10)
def yK(c:Int):Bool:=decide (c=32\/c=9\/c=13\/c=10)
def inkB(c:Int):Bool:=decide (c≠10)
theorem qWP(c:Int):0<=qQa c/\qQa c<=16:=by
 unfold qQa;by_cases j:48<=c/\c<=57
 ·rw[if_pos j];omega
 rw[if_neg j];by_cases h2:97<=c/\c<=102
 ·rw[if_pos h2];omega
 rw[if_neg h2];by_cases h3:65<=c/\c<=70
 ·rw[if_pos h3];omega
 rw[if_neg h3];omega
def xQ(p:Int->Bool):List UInt8->Nat
 | []=>0
 | b :: r=>if p (b.toNat:Int)then xQ p r+1 else 0
def cmt:List UInt8:=[47,47]
def qQC(l:List UInt8):Nat:=if Lib.hasPrefix l cmt then xQ inkB l else xQ yK l
def qQv:List (List UInt8):=[[124,124],[38,38],[61,61],[33,61],[60,61],[62,61],[60,60],[62,62],[43],[45],[42],[47],[37],[38],[124],[94],[126],[33],[60],[62],[61],[40],[41],[123],[125],[91],[93],[44],[59]]
def vK(l:List UInt8):List (List UInt8)->Nat
 | []=>0
 | g :: r=>if Lib.hasPrefix l g then g.length else vK l r
def qZ6(l:List UInt8):Nat:=vK l qQv
def vA(l:List UInt8):Int:=match l with
 | []=>2
 | b :: _=>if qZx (b.toNat:Int)then 0 else if qQa (b.toNat:Int) < 10 then 1 else 2
def zZ(l:List UInt8):Nat:=match l with
 | []=>0
 | b :: r=>if qZx (b.toNat:Int)then xQ qQZ (b :: r)else if qQa (b.toNat:Int) < 10 then xQ qQZ (b :: r)else qZ6 (b :: r)
def xJ(base:Int)(acc:Int):List UInt8->Option Int
 | []=>some acc
 | b :: r=>if base<=qQa (b.toNat:Int)\/(18446744073709551615 - qQa (b.toNat:Int)) / base < acc then none else xJ base (acc * base+qQa (b.toNat:Int)) r
def qWl:List UInt8:=[48,120]
def qJg(l:List UInt8):Option Int :=
 if Lib.hasPrefix l qWl then(if l.drop 2=[]then none else xJ 16 0 (l.drop 2))else(if l=[]then none else xJ 10 0 l)
def kU:List UInt8->Int->Int->Int×Int
 | [],ln,c=>(ln,c)
 | b :: r,ln,c=>if (b.toNat:Int)=10 then kU r (ln+1) 1 else kU r ln (c+1)
def qQp:Nat->List UInt8->Int->Int->List UInt8×Int×Int
 | 0,l,ln,c=>(l,ln,c)
 | n+1,l,ln,c=>if qQC l=0 then(l,ln,c)else qQp n (l.drop (qQC l)) (kU (l.take (qQC l)) ln c).1 (kU (l.take (qQC l)) ln c).2
structure Tok where
 kind:Int
 text:List UInt8
 num:Int
 line:Int
 col:Int
inductive Res where
 | bad (ln c code:Int)
 | ok (l:List Tok)
def Res.cons(t:Tok):Res->Res
 | .bad a b c=>.bad a b c
 | .ok l=>.ok (t :: l)
def Res.pre(acc:List Tok):Res->Res
 | .bad a b c=>.bad a b c
 | .ok l=>.ok (acc++l)
def wK(l:List UInt8):Int:=if zZ l=0 then 20 else if vA l=1 then(if (qJg (l.take (zZ l))).isSome then 0 else 21)else 0
def qJX(l:List UInt8)(ln c:Int):Tok:=⟨vA l,l.take (zZ l),if vA l=1 then(qJg (l.take (zZ l))).getD 0 else 0,ln,c⟩
def qJt:Nat->List UInt8->Int->Int->Res
 | 0,_,_,_=>.bad 0 0 0
 | n+1,l,ln,c =>
  let s:=qQp l.length l ln c
  if s.1=[]then .ok [⟨3,[],0,s.2.1,s.2.2⟩]
  else if wK s.1=0 then(qJt n (s.1.drop (zZ s.1)) (kU (s.1.take (zZ s.1)) s.2.1 s.2.2).1 (kU (s.1.take (zZ s.1)) s.2.1 s.2.2).2).cons (qJX s.1 s.2.1 s.2.2)
  else .bad s.2.1 s.2.2 (wK s.1)
theorem qWv(p:Int->Bool)(l:List UInt8):xQ p l<=l.length:=by
 induction l with
 | nil=>exact Nat.le_refl _
 | cons b r ih =>
  rw[xQ,lO];by_cases h:p (b.toNat:Int)=true
  ·rw[if_pos h];omega
  ·rw[if_neg h];omega
theorem sign_le(l:List UInt8)(gs:List (List UInt8)):vK l gs<=l.length:=by
 induction gs with
 | nil=>exact Nat.zero_le _
 | cons g r ih =>
  rw[vK];by_cases h:Lib.hasPrefix l g=true
  ·rw[if_pos h];have:g <+: l:=List.isPrefixOf_iff_prefix.mp h;exact this.length_le
  ·rw[if_neg h];exact ih
theorem gap_le(l:List UInt8):qQC l<=l.length:=by
 unfold qQC;by_cases h:Lib.hasPrefix l cmt=true
 ·rw[if_pos h];exact qWv _ _
 ·rw[if_neg h];exact qWv _ _
theorem wG(l:List UInt8):zZ l<=l.length:=by
 cases l with
 | nil=>exact Nat.le_refl _
 | cons b r =>
  rw[zZ];by_cases h:qZx (b.toNat:Int)=true
  ·rw[if_pos h];exact qWv _ _
  rw[if_neg h];by_cases h2:qQa (b.toNat:Int) < 10
  ·rw[if_pos h2];exact qWv _ _
  rw[if_neg h2];exact sign_le _ _
theorem qY9(l:List UInt8):0<=vA l/\vA l<=2:=by
 cases l with
 | nil=>exact⟨by decide,by decide⟩
 | cons b r =>
  rw[vA];by_cases h:qZx (b.toNat:Int)=true
  ·rw[if_pos h];decide
  rw[if_neg h];by_cases h2:qQa (b.toNat:Int) < 10
  ·rw[if_pos h2];decide
  rw[if_neg h2];decide
theorem adv_bd(l:List UInt8)(ln c:Int)(j:1<=ln)(h2:1<=c) :
 (1<=(kU l ln c).1/\(kU l ln c).1<=ln+l.length)/\(1<=(kU l ln c).2/\(kU l ln c).2<=c+l.length):=by
 induction l generalizing ln c with
 | nil=>simp[kU];omega
 | cons b r ih =>
  rw[kU,lO];by_cases h:(b.toNat:Int)=10
  ·rw[if_pos h];have:=ih (ln+1) 1 (by omega) (by omega);omega
  ·rw[if_neg h];have:=ih ln (c+1) (by omega) (by omega);omega
theorem adv_snoc(l:List UInt8)(b:UInt8)(ln c:Int):kU (l++[b]) ln c=if (b.toNat:Int)=10 then((kU l ln c).1+1,1)else((kU l ln c).1,(kU l ln c).2+1):=by
 induction l generalizing ln c with
 | nil=>simp[kU]
 | cons a r ih =>
  rw[lC,kU,kU];by_cases h:(a.toNat:Int)=10
  ·rw[if_pos h,if_pos h];exact ih _ _
  ·rw[if_neg h,if_neg h];exact ih _ _
open Go Go.RowKit
theorem qQ4{a b:Bool}(h:a=b):Ending.returned (.bool a)=.returned (.bool b):=by rw[h]
theorem qQ6{k:IntKind}{a b:Int}(h:a=b):Ending.returned (.int k a)=.returned (.int k b):=by rw[h]
theorem qKI(c:Int)(w:World)(o:0<=c)(j:c < 256) :
 Calls prog 56 #[.int .u8 c] w fun e w'=>e=.returned (.bool (qZx c))/\w=w':=by
 go_enter func56,ntmps56
 go_wp2
 all_goals (go_ret;exact⟨qQ4 (by unfold qZx;rw[Bool.eq_iff_iff];simp <;> omega),rfl⟩)
theorem qXY(c:Int)(w:World)(o:0<=c)(j:c < 256) :
 Calls prog 57 #[.int .u8 c] w fun e w'=>e=.returned (.int .u64 (qQa c))/\w=w':=by
 go_enter func57,ntmps57
 go_wp2
 all_goals (go_ret;exact⟨qQ6 (by unfold qQa;(repeat' split) <;> omega),rfl⟩)
theorem ink_any(c:Int)(w:World) :
 Calls prog 53 #[.int .u8 c] w fun e w'=>e=.returned (.bool (inkB c))/\w=w':=by
 go_enter func53,ntmps53
 go_wp2
 go_ret;exact⟨qQ4 (by unfold inkB;rw[Bool.eq_iff_iff];simp),rfl⟩
theorem qYW(c:Int)(w:World) :
 Calls prog 54 #[.int .u8 c] w fun e w'=>e=.returned (.bool (yK c))/\w=w':=by
 go_enter func54,ntmps54
 go_wp2
 all_goals (go_ret;exact⟨qQ4 (by unfold yK;rw[Bool.eq_iff_iff];simp <;> omega),rfl⟩)
theorem qPX(c:Int)(w:World)(o:0<=c)(j:c < 256) :
 Calls prog 55 #[.int .u8 c] w fun e w'=>e=.returned (.bool (qQZ c))/\w=w':=by
 have hd:=qWP c;unfold qQZ;cases hl:qZx c
 ·go_enter func55,ntmps55
  go_wp2_with (first
   | (go_at_call 56;refine(qKI _ _ o j).mono ?_;rintro e w' ⟨rfl,rfl⟩;rw[hl])
   | (go_at_call 57;refine(qXY _ _ o j).mono ?_;rintro e w' ⟨rfl,rfl⟩))
  all_goals (go_ret;exact⟨qQ4 (by simp),rfl⟩)
 ·go_enter func55,ntmps55
  go_wp2_with (first
   | (go_at_call 56;refine(qKI _ _ o j).mono ?_;rintro e w' ⟨rfl,rfl⟩;rw[hl])
   | (go_at_call 57;refine(qXY _ _ o j).mono ?_;rintro e w' ⟨rfl,rfl⟩))
  all_goals (go_ret;exact⟨qQ4 (by simp),rfl⟩)
theorem qJa(b:UInt8):0<=(b.toNat:Int)/\(b.toNat:Int) < 256:=by
 have:=b.toNat_lt;omega
theorem qQQ(s:ByteArray):s.size=s.data.toList.length:=rfl
theorem qWo(s:ByteArray)(k:Nat)(h:k < s.size):s.data.toList.drop k=s[k] :: s.data.toList.drop (k+1):=by
 rw[List.drop_eq_getElem_cons (by simpa using h)];rfl
theorem qYo{p:Int->Bool}{s:ByteArray}{k:Nat}(h:k < s.size)(hp:p (s[k].toNat:Int)=true)(hr:xQ p (s.data.toList.drop k)+k=xQ p s.data.toList) :
 xQ p (s.data.toList.drop (k+1))+(k+1)=xQ p s.data.toList:=by
 rw[qWo s k h,xQ,if_pos hp]at hr;omega
theorem qVO{p:Int->Bool}{s:ByteArray}{k:Nat}(h:k < s.size)(hp:p (s[k].toNat:Int)=false)(hr:xQ p (s.data.toList.drop k)+k=xQ p s.data.toList) :
 (k:Int)=(xQ p s.data.toList:Int):=by
 rw[qWo s k h,xQ,if_neg (by simp[hp])]at hr;omega
theorem qYn{p:Int->Bool}{s:ByteArray}{k:Nat}(h:k<=s.size)(j:¬k < s.size)(hr:xQ p (s.data.toList.drop k)+k=xQ p s.data.toList) :
 (s.size:Int)=(xQ p s.data.toList:Int):=by
 obtain rfl:k=s.size:=by omega
 rw[List.drop_of_length_le (by simp)]at hr;simp[xQ]at hr;omega
theorem span_ink(s:ByteArray)(w:World)(hs:s.size<=maxLen) :
 Calls prog 52 #[.string s, .func (.func 53) #[] #[]] w fun e w'=>e=.returned (.int .i64 (xQ inkB s.data.toList))/\w=w':=by
 unfold maxLen at hs;go_enter func52,ntmps52
 go_wp2
 go_loop [8] (fun i=>∃ k:Nat,k<=s.size/\i=.int .i64 k/\xQ inkB (s.data.toList.drop k)+k=xQ inkB s.data.toList) (fun i=>s.size - (intOf i).toNat)
 case atStart=>exact⟨0,Nat.zero_le _,rfl,by simp⟩
 case round =>
  obtain⟨k,z,rfl,hr⟩:=hrel;have y:=hI hr;clear hr;by_cases j:k < s.size
  ·cases hp:inkB (s[k].toNat:Int)
   ·go_wp2_with (go_at_call 53;refine(ink_any _ _).mono ?_;rintro e w' ⟨rfl,rfl⟩;rw[hp])
    go_ret;exact⟨qQ6 (qVO j hp y.o),rfl⟩
   ·go_wp2_with (go_at_call 53;refine(ink_any _ _).mono ?_;rintro e w' ⟨rfl,rfl⟩;rw[hp])
    go_round
    case rel=>exact⟨k+1,by omega,by go_num,qYo j hp y.o⟩
    case measure=>simp[intOf];omega
  ·go_wp2
   go_ret;exact⟨qQ6 (qYn z j y.o),rfl⟩
theorem span_blank(s:ByteArray)(w:World)(hs:s.size<=maxLen) :
 Calls prog 52 #[.string s, .func (.func 54) #[] #[]] w fun e w'=>e=.returned (.int .i64 (xQ yK s.data.toList))/\w=w':=by
 unfold maxLen at hs;go_enter func52,ntmps52
 go_wp2
 go_loop [8] (fun i=>∃ k:Nat,k<=s.size/\i=.int .i64 k/\xQ yK (s.data.toList.drop k)+k=xQ yK s.data.toList) (fun i=>s.size - (intOf i).toNat)
 case atStart=>exact⟨0,Nat.zero_le _,rfl,by simp⟩
 case round =>
  obtain⟨k,z,rfl,hr⟩:=hrel;have y:=hI hr;clear hr;by_cases j:k < s.size
  ·cases hp:yK (s[k].toNat:Int)
   ·go_wp2_with (go_at_call 54;refine(qYW _ _).mono ?_;rintro e w' ⟨rfl,rfl⟩;rw[hp])
    go_ret;exact⟨qQ6 (qVO j hp y.o),rfl⟩
   ·go_wp2_with (go_at_call 54;refine(qYW _ _).mono ?_;rintro e w' ⟨rfl,rfl⟩;rw[hp])
    go_round
    case rel=>exact⟨k+1,by omega,by go_num,qYo j hp y.o⟩
    case measure=>simp[intOf];omega
  ·go_wp2
   go_ret;exact⟨qQ6 (qYn z j y.o),rfl⟩
theorem qUx(s:ByteArray)(w:World)(hs:s.size<=maxLen) :
 Calls prog 52 #[.string s, .func (.func 55) #[] #[]] w fun e w'=>e=.returned (.int .i64 (xQ qQZ s.data.toList))/\w=w':=by
 unfold maxLen at hs;go_enter func52,ntmps52
 go_wp2
 go_loop [8] (fun i=>∃ k:Nat,k<=s.size/\i=.int .i64 k/\xQ qQZ (s.data.toList.drop k)+k=xQ qQZ s.data.toList) (fun i=>s.size - (intOf i).toNat)
 case atStart=>exact⟨0,Nat.zero_le _,rfl,by simp⟩
 case round =>
  obtain⟨k,z,rfl,hr⟩:=hrel;have y:=hI hr;clear hr;by_cases j:k < s.size
  ·cases hp:qQZ (s[k].toNat:Int)
   ·go_wp2_with (go_at_call 55;refine(qPX _ _ (qJa _).1 (qJa _).2).mono ?_;rintro e w' ⟨rfl,rfl⟩;rw[hp])
    go_ret;exact⟨qQ6 (qVO j hp y.o),rfl⟩
   ·go_wp2_with (go_at_call 55;refine(qPX _ _ (qJa _).1 (qJa _).2).mono ?_;rintro e w' ⟨rfl,rfl⟩;rw[hp])
    go_round
    case rel=>exact⟨k+1,by omega,by go_num,qYo j hp y.o⟩
    case measure=>simp[intOf];omega
  ·go_wp2
   go_ret;exact⟨qQ6 (qYn z j y.o),rfl⟩
end Go.Proofs.YtiajhekdhhhghaaGreatDoor
namespace Go.Proofs
open Go.Shelf
def Tryz.lays156_ren:Go.Shelf.Ren:=⟨fun | 156=>62 | 165=>77 | 166=>24 | 169=>25 | 240=>46 | 241=>96 | 276=>68 | 277=>118 | n=>n,fun | 31=>113 | 9=>9 | 3=>3 | 4=>4 | 0=>0 | 20=>20 | 72=>64 | 76=>68 | 70=>61 | 37=>62 | 75=>66 | 127=>100 | 164=>124 | 5=>5 | 80=>70 | n=>n,fun | n=>n⟩
theorem Tryz.lays156:Go.Proofs.Lays.n156 Tryz.prog Tryz.lays156_ren:={
 mixed:=by kernel_rfl
 f156:=Tryz.func62.trans (congrArg some (by kernel_rfl))
 f165:=Tryz.func77.trans (congrArg some (by kernel_rfl))
 f166:=Tryz.func24.trans (congrArg some (by kernel_rfl))
 f169:=Tryz.func25.trans (congrArg some (by kernel_rfl))
 f240:=Tryz.func46.trans (congrArg some (by kernel_rfl))
 f241:=Tryz.func96.trans (congrArg some (by kernel_rfl))
 f276:=Tryz.func68.trans (congrArg some (by kernel_rfl))
 f277:=Tryz.func118.trans (congrArg some (by kernel_rfl))
 t0:=Tryz.underlying0
 a0:=Tryz.isAgg0
 z0:=Tryz.sizeOf0
 v0:=Tryz.zeroValue0
 t3:=Tryz.underlying3
 a3:=Tryz.isAgg3
 z3:=Tryz.sizeOf3
 v3:=Tryz.zeroValue3
 t4:=Tryz.underlying4
 a4:=Tryz.isAgg4
 z4:=Tryz.sizeOf4
 v4:=Tryz.zeroValue4
 t9:=Tryz.underlying9
 a9:=Tryz.isAgg9
 z9:=Tryz.sizeOf9
 v9:=Tryz.zeroValue9
 t20:=Tryz.underlying20
 a20:=Tryz.isAgg20
 z20:=Tryz.sizeOf20
 v20:=Tryz.zeroValue20
 t31:=Tryz.underlying113
 a31:=Tryz.isAgg113
 z31:=Tryz.sizeOf113
 v31:=Tryz.zeroValue113
 t37:=Tryz.underlying62
 a37:=Tryz.isAgg62
 z37:=Tryz.sizeOf62
 v37:=Tryz.zeroValue62
 t70:=Tryz.underlying61
 a70:=Tryz.isAgg61
 z70:=Tryz.sizeOf61
 v70:=Tryz.zeroValue61
 t72:=Tryz.underlying64
 a72:=Tryz.isAgg64
 z72:=Tryz.sizeOf64
 v72:=Tryz.zeroValue64
 t75:=Tryz.underlying66
 a75:=Tryz.isAgg66
 z75:=Tryz.sizeOf66
 v75:=Tryz.zeroValue66
 t76:=Tryz.underlying68
 a76:=Tryz.isAgg68
 z76:=Tryz.sizeOf68
 v76:=Tryz.zeroValue68
 t127:=Tryz.underlying100
 a127:=Tryz.isAgg100
 z127:=Tryz.sizeOf100
 v127:=Tryz.zeroValue100
 t164:=Tryz.underlying124
 a164:=Tryz.isAgg124
 z164:=Tryz.sizeOf124
 v164:=Tryz.zeroValue124 }
theorem Tryz.Builder_Extra_156:Builder.Extra Tryz.prog Tryz.lays156_ren:={
 sizeBuilder:=by kernel_rfl
 liesBuilder:=by kernel_rfl
 t5:=Tryz.underlying5
 a5:=Tryz.isAgg5
 z5:=Tryz.sizeOf5
 v5:=Tryz.zeroValue5
 infoByte:=by kernel_rfl
 cellsByte:=by kernel_rfl
 sizeByte:=by kernel_rfl
 neB5:=by decide }
open Go.RowKit in
theorem Tryz.strings_Join_none(a:Option Addr)(c:Nat)(sep:ByteArray)(w:World) :
 Calls Tryz.prog 62 #[.slice a 0 c, .string sep] w fun e w'=>e=.returned (.string ⟨#[]⟩)/\w'=w:=Any.strings_Join_none Tryz.lays156 Tryz.Builder_Extra_156 a c sep w
open Go.RowKit in
theorem Tryz.strings_Join(bk o c:Nat)(xs:List ByteArray)(sep:ByteArray)(w:World)(hcells:∀ (j:Nat) x,xs[j]? = some x->w.cell? ⟨bk,o+j,none⟩=some (.string x))(hbk:bk < w.heap.size)(hN:xs.length<=140737488355328)(hcap:xs.length<=c)(hlen:(Lib.join (xs.map (·.data.toList)) sep.data.toList).length<=140737488355328) :
 Calls Tryz.prog 62 #[.slice (some ⟨bk,o,none⟩) xs.length c, .string sep] w fun e w'=>e=.returned (.string ⟨(Lib.join (xs.map (·.data.toList)) sep.data.toList).toArray⟩)/\Below w.heap.size w w':=Any.strings_Join Tryz.lays156 Tryz.Builder_Extra_156 bk o c xs sep w hcells hbk hN hcap hlen
def Tryz.lays210_ren:Go.Shelf.Ren:=⟨fun | 210=>72 | 206=>71 | n=>n,fun | 9=>9 | 4=>4 | 3=>3 | n=>n,fun | n=>n⟩
def Tryz.lays103_ren:Go.Shelf.Ren:=⟨fun | 103=>59 | 210=>72 | 206=>71 | n=>n,fun | 9=>9 | 4=>4 | 24=>107 | 3=>3 | n=>n,fun | n=>n⟩
theorem Tryz.lays103:Go.Proofs.Lays.n103 Tryz.prog Tryz.lays103_ren:={
 mixed:=by kernel_rfl
 f103:=Tryz.func59.trans (congrArg some (by kernel_rfl))
 f206:=Tryz.func71.trans (congrArg some (by kernel_rfl))
 f210:=Tryz.func72.trans (congrArg some (by kernel_rfl))
 t3:=Tryz.underlying3
 a3:=Tryz.isAgg3
 z3:=Tryz.sizeOf3
 v3:=Tryz.zeroValue3
 t4:=Tryz.underlying4
 a4:=Tryz.isAgg4
 z4:=Tryz.sizeOf4
 v4:=Tryz.zeroValue4
 t9:=Tryz.underlying9
 a9:=Tryz.isAgg9
 z9:=Tryz.sizeOf9
 v9:=Tryz.zeroValue9
 t24:=Tryz.underlying107
 a24:=Tryz.isAgg107
 z24:=Tryz.sizeOf107
 v24:=Tryz.zeroValue107 }
open Go.RowKit in
theorem Tryz.strings_CutPrefix(s p:ByteArray)(w:World) :
 Calls Tryz.prog 59 #[.string s, .string p] w fun e w'=>e=.returned (.tuple #[.string ⟨(Lib.trimPrefix s.data.toList p.data.toList).toArray⟩, .bool (Lib.hasPrefix s.data.toList p.data.toList)])/\w'=w:=Any.strings_CutPrefix Tryz.lays103 s p w
def Tryz.lays285_ren:Go.Shelf.Ren:=⟨fun | 285=>168 | n=>n,fun | 37=>62 | 53=>47 | 3=>3 | 4=>4 | 51=>195 | 9=>9 | 5=>5 | 0=>0 | n=>n,fun | n=>n⟩
theorem Tryz.lays285:Go.Proofs.Lays.n285 Tryz.prog Tryz.lays285_ren:={
 mixed:=by kernel_rfl
 f285:=Tryz.func168.trans (congrArg some (by kernel_rfl))
 t0:=Tryz.underlying0
 a0:=Tryz.isAgg0
 z0:=Tryz.sizeOf0
 v0:=Tryz.zeroValue0
 t3:=Tryz.underlying3
 a3:=Tryz.isAgg3
 z3:=Tryz.sizeOf3
 v3:=Tryz.zeroValue3
 t4:=Tryz.underlying4
 a4:=Tryz.isAgg4
 z4:=Tryz.sizeOf4
 v4:=Tryz.zeroValue4
 t5:=Tryz.underlying5
 a5:=Tryz.isAgg5
 z5:=Tryz.sizeOf5
 v5:=Tryz.zeroValue5
 t9:=Tryz.underlying9
 a9:=Tryz.isAgg9
 z9:=Tryz.sizeOf9
 v9:=Tryz.zeroValue9
 t37:=Tryz.underlying62
 a37:=Tryz.isAgg62
 z37:=Tryz.sizeOf62
 v37:=Tryz.zeroValue62
 t51:=Tryz.underlying195
 a51:=Tryz.isAgg195
 z51:=Tryz.sizeOf195
 v51:=Tryz.zeroValue195
 t53:=Tryz.underlying47
 a53:=Tryz.isAgg47
 z53:=Tryz.sizeOf47
 v53:=Tryz.zeroValue47 }
open Go.RowKit Go.Sort Go.Lib in
theorem Tryz.internal_strconv_formatBase10(blk off cap:Nat)(u:Nat)(d:Array UInt8)(w:World)(hH:Holds (fun(b:UInt8)=>Value.int .u8 (b.toNat:Int)) w blk off d)(hu:u < 10 ^ d.size)(hu64:u < 18446744073709551616)(hsz:d.size < 4611686018427387904) :
 Calls Tryz.prog 168 #[.slice (some ⟨blk,off,none⟩) d.size cap, .int .u64 u] w fun e w' =>
  e=.returned (.tuple #[])/\∃ (n v':Nat) (dk:Array UInt8),w'=(putRow (fun(b:UInt8)=>Value.int .u8 (b.toNat:Int)) w blk off dk).drewN n/\FmtInv d.size u 0 v' dk:=Any.internal_strconv_formatBase10 Tryz.lays285 blk off cap u d w hH hu hu64 hsz
def Tryz.laysM316_ren:Go.Shelf.Ren:=⟨fun | 316=>38 | n=>n,fun | 9=>9 | 3=>3 | 4=>4 | 37=>62 | 0=>0 | 127=>100 | 5=>5 | n=>n,fun | n=>n⟩
theorem Tryz.laysM316:Go.Proofs.LaysM.n316 Tryz.prog Tryz.laysM316_ren:={
 mixed:=by kernel_rfl
 f316:=Tryz.func38.trans (congrArg some (by kernel_rfl))
 t0:=Tryz.underlying0
 a0:=Tryz.isAgg0
 z0:=Tryz.sizeOf0
 v0:=Tryz.zeroValue0
 t3:=Tryz.underlying3
 a3:=Tryz.isAgg3
 z3:=Tryz.sizeOf3
 v3:=Tryz.zeroValue3
 t4:=Tryz.underlying4
 a4:=Tryz.isAgg4
 z4:=Tryz.sizeOf4
 v4:=Tryz.zeroValue4
 t9:=Tryz.underlying9
 a9:=Tryz.isAgg9
 z9:=Tryz.sizeOf9
 v9:=Tryz.zeroValue9
 t37:=Tryz.underlying62
 a37:=Tryz.isAgg62
 z37:=Tryz.sizeOf62
 v37:=Tryz.zeroValue62
 t127:=Tryz.underlying100
 a127:=Tryz.isAgg100
 z127:=Tryz.sizeOf100
 v127:=Tryz.zeroValue100
 t5:=Tryz.underlying5
 a5:=Tryz.isAgg5
 z5:=Tryz.sizeOf5
 v5:=Tryz.zeroValue5
 i0:=by kernel_rfl
 i3:=by kernel_rfl
 i4:=by kernel_rfl
 i5:=by kernel_rfl
 i9:=by kernel_rfl
 i37:=by kernel_rfl
 i127:=by kernel_rfl }
open Go.RowKit in
theorem Tryz.stringslite_Clone(s:ByteArray)(w:World)(hlim:s.size<=281474976710656) :
 Calls Tryz.prog 38 #[.string s] w fun e w'=>e=.returned (.string s)/\Below w.heap.size w w':=Any.stringslite_Clone Tryz.laysM316 s w hlim
def Tryz.lays99_ren:Go.Shelf.Ren:=⟨fun | 99=>51 | 206=>71 | n=>n,fun | 9=>9 | 4=>4 | 3=>3 | n=>n,fun | n=>n⟩
theorem Tryz.lays99:Go.Proofs.Lays.n99 Tryz.prog Tryz.lays99_ren:={
 mixed:=by kernel_rfl
 f99:=Tryz.func51.trans (congrArg some (by kernel_rfl))
 f206:=Tryz.func71.trans (congrArg some (by kernel_rfl))
 t3:=Tryz.underlying3
 a3:=Tryz.isAgg3
 z3:=Tryz.sizeOf3
 v3:=Tryz.zeroValue3
 t4:=Tryz.underlying4
 a4:=Tryz.isAgg4
 z4:=Tryz.sizeOf4
 v4:=Tryz.zeroValue4
 t9:=Tryz.underlying9
 a9:=Tryz.isAgg9
 z9:=Tryz.sizeOf9
 v9:=Tryz.zeroValue9 }
open Go.RowKit Go.Lib in
theorem Tryz.strings_HasPrefix(s p:ByteArray)(w:World) :
 Calls Tryz.prog 51 #[.string s, .string p] w fun e w'=>e=.returned (.bool (Lib.hasPrefix s.data.toList p.data.toList))/\w'=w:=Any.strings_HasPrefix Tryz.lays99 s p w
def Tryz.lays110_ren:Go.Shelf.Ren:=⟨fun | 110=>174 | 109=>182 | n=>n,fun | 31=>113 | 9=>9 | 4=>4 | 3=>3 | 0=>0 | n=>n,fun | n=>n⟩
theorem Tryz.lays110:Go.Proofs.Lays.n110 Tryz.prog Tryz.lays110_ren:={
 mixed:=by kernel_rfl
 f109:=Tryz.func182.trans (congrArg some (by kernel_rfl))
 f110:=Tryz.func174.trans (congrArg some (by kernel_rfl))
 t0:=Tryz.underlying0
 a0:=Tryz.isAgg0
 z0:=Tryz.sizeOf0
 v0:=Tryz.zeroValue0
 t3:=Tryz.underlying3
 a3:=Tryz.isAgg3
 z3:=Tryz.sizeOf3
 v3:=Tryz.zeroValue3
 t4:=Tryz.underlying4
 a4:=Tryz.isAgg4
 z4:=Tryz.sizeOf4
 v4:=Tryz.zeroValue4
 t9:=Tryz.underlying9
 a9:=Tryz.isAgg9
 z9:=Tryz.sizeOf9
 v9:=Tryz.zeroValue9
 t31:=Tryz.underlying113
 a31:=Tryz.isAgg113
 z31:=Tryz.sizeOf113
 v31:=Tryz.zeroValue113 }
open Go.Lib in
theorem Tryz.slices_Contains_string(b off n c:Nat)(zs:List ByteArray)(x:ByteArray)(w:World)(hz:n<=zs.length)(hbig:n<=9223372036854775807)(hc:∀ j,j < zs.length->w.cell? ⟨b,off+j,none⟩=some (.string (zs.getD j ByteArray.empty))) :
 Calls Tryz.prog 174 #[.slice (some ⟨b,off,none⟩) n c, .string x] w fun e w'=>e=.returned (.bool (Lib.containsS (zs.take n) x))/\w'=w:=Any.slices_Contains_string Tryz.lays110 b off n c zs x w hz hbig hc
end Go.Proofs
namespace Go.Proofs.YtiajhekdhhhghaaGreatDoor
open Tryz
open Go Go.RowKit
def qZ3:List (List UInt8):=[[98,111,111,108],[117,56],[117,49,54],[117,51,50],[117,54,52],[105,56],[105,49,54],[105,51,50],[105,54,52],[118,111,105,100],[105,102],[101,108,115,101],[119,104,105,108,101],[114,101,116,117,114,110],[97,115,115,101,114,116],[97,115,115,117,109,101],[110,111,110,100,101,116],[116,114,117,101],[102,97,108,115,101]]
structure qZ0(g n:Nat)(L:List (List UInt8))(b off cap:Nat)(w:World):Prop where
 tg:w.cell? ⟨g,0,none⟩=some (.slice (some ⟨b,off,none⟩) n cap)
 tn:∀ i,i < n->w.cell? ⟨b,off+i,none⟩=some (.string ⟨(L.getD i []).toArray⟩)
theorem qJ{w:World}{p:Addr}{v:Value}(h:w.cell? p=some v):p.block < w.1.size:=by
 by_cases j:p.block < w.1.size
 ·exact j
 ·exfalso;have:w.1[p.block]? = none:=by simp;omega
  simp[World.cell?,this]at h
theorem kP{w w':World}{p:Addr}{v:Value}(h:Below w.heap.size w w')(e:w.cell? p=some v):w'.cell? p=some v:=(h.cell (qJ e)).trans e
theorem kP3{w w':World}{p0 p1 p2:Addr}{v0 v1 v2:Value}(h:Below w.heap.size w w')(e0:w.cell? p0=some v0)(e1:w.cell? p1=some v1)(e2:w.cell? p2=some v2):w'.cell? p0=some v0/\w'.cell? p1=some v1/\w'.cell? p2=some v2:=⟨kP h e0,kP h e1,kP h e2⟩
theorem kP4{w w':World}{p0 p1 p2 p3:Addr}{v0 v1 v2 v3:Value}(h:Below w.heap.size w w')(e0:w.cell? p0=some v0)(e1:w.cell? p1=some v1)(e2:w.cell? p2=some v2)(e3:w.cell? p3=some v3):w'.cell? p0=some v0/\w'.cell? p1=some v1/\w'.cell? p2=some v2/\w'.cell? p3=some v3:=⟨kP h e0,kP h e1,kP h e2,kP h e3⟩
theorem kP5{w w':World}{p0 p1 p2 p3 p4:Addr}{v0 v1 v2 v3 v4:Value}(h:Below w.heap.size w w')(e0:w.cell? p0=some v0)(e1:w.cell? p1=some v1)(e2:w.cell? p2=some v2)(e3:w.cell? p3=some v3)(e4:w.cell? p4=some v4):w'.cell? p0=some v0/\w'.cell? p1=some v1/\w'.cell? p2=some v2/\w'.cell? p3=some v3/\w'.cell? p4=some v4:=⟨kP h e0,kP h e1,kP h e2,kP h e3,kP h e4⟩
theorem kP6{w w':World}{p0 p1 p2 p3 p4 p5:Addr}{v0 v1 v2 v3 v4 v5:Value}(h:Below w.heap.size w w')(e0:w.cell? p0=some v0)(e1:w.cell? p1=some v1)(e2:w.cell? p2=some v2)(e3:w.cell? p3=some v3)(e4:w.cell? p4=some v4)(e5:w.cell? p5=some v5):w'.cell? p0=some v0/\w'.cell? p1=some v1/\w'.cell? p2=some v2/\w'.cell? p3=some v3/\w'.cell? p4=some v4/\w'.cell? p5=some v5:=⟨kP h e0,kP h e1,kP h e2,kP h e3,kP h e4,kP h e5⟩
theorem kP8{w w':World}{p0 p1 p2 p3 p4 p5 p6 p7:Addr}{v0 v1 v2 v3 v4 v5 v6 v7:Value}(h:Below w.heap.size w w')(e0:w.cell? p0=some v0)(e1:w.cell? p1=some v1)(e2:w.cell? p2=some v2)(e3:w.cell? p3=some v3)(e4:w.cell? p4=some v4)(e5:w.cell? p5=some v5)(e6:w.cell? p6=some v6)(e7:w.cell? p7=some v7):w'.cell? p0=some v0/\w'.cell? p1=some v1/\w'.cell? p2=some v2/\w'.cell? p3=some v3/\w'.cell? p4=some v4/\w'.cell? p5=some v5/\w'.cell? p6=some v6/\w'.cell? p7=some v7:=⟨kP h e0,kP h e1,kP h e2,kP h e3,kP h e4,kP h e5,kP h e6,kP h e7⟩
theorem kP10{w w':World}{p0 p1 p2 p3 p4 p5 p6 p7 p8 p9:Addr}{v0 v1 v2 v3 v4 v5 v6 v7 v8 v9:Value}(h:Below w.heap.size w w')(e0:w.cell? p0=some v0)(e1:w.cell? p1=some v1)(e2:w.cell? p2=some v2)(e3:w.cell? p3=some v3)(e4:w.cell? p4=some v4)(e5:w.cell? p5=some v5)(e6:w.cell? p6=some v6)(e7:w.cell? p7=some v7)(e8:w.cell? p8=some v8)(e9:w.cell? p9=some v9):w'.cell? p0=some v0/\w'.cell? p1=some v1/\w'.cell? p2=some v2/\w'.cell? p3=some v3/\w'.cell? p4=some v4/\w'.cell? p5=some v5/\w'.cell? p6=some v6/\w'.cell? p7=some v7/\w'.cell? p8=some v8/\w'.cell? p9=some v9:=⟨kP h e0,kP h e1,kP h e2,kP h e3,kP h e4,kP h e5,kP h e6,kP h e7,kP h e8,kP h e9⟩
theorem kP11{w w':World}{p0 p1 p2 p3 p4 p5 p6 p7 p8 p9 p10:Addr}{v0 v1 v2 v3 v4 v5 v6 v7 v8 v9 v10:Value}(h:Below w.heap.size w w')(e0:w.cell? p0=some v0)(e1:w.cell? p1=some v1)(e2:w.cell? p2=some v2)(e3:w.cell? p3=some v3)(e4:w.cell? p4=some v4)(e5:w.cell? p5=some v5)(e6:w.cell? p6=some v6)(e7:w.cell? p7=some v7)(e8:w.cell? p8=some v8)(e9:w.cell? p9=some v9)(e10:w.cell? p10=some v10):w'.cell? p0=some v0/\w'.cell? p1=some v1/\w'.cell? p2=some v2/\w'.cell? p3=some v3/\w'.cell? p4=some v4/\w'.cell? p5=some v5/\w'.cell? p6=some v6/\w'.cell? p7=some v7/\w'.cell? p8=some v8/\w'.cell? p9=some v9/\w'.cell? p10=some v10:=⟨kP h e0,kP h e1,kP h e2,kP h e3,kP h e4,kP h e5,kP h e6,kP h e7,kP h e8,kP h e9,kP h e10⟩
theorem qZ0.below{g n b o j:Nat}{L:List (List UInt8)}{w w':World}(h:qZ0 g n L b o j w)(hb:Below w.1.size w w'):qZ0 g n L b o j w' :=
 ⟨kP hb h.tg,fun i hi=>(hb.cell (qJ (h.tn i hi))).trans (h.tn i hi)⟩
def Keys(w:World):Prop:=∃ b off cap,qZ0 6 19 qZ3 b off cap w
def qZO(w:World):Prop:=∃ b off cap,qZ0 0 29 qQv b off cap w
theorem sign_hit{l:List UInt8}{k:Nat}(h:k < 29)(hp:Lib.hasPrefix l (qQv.getD k [])=true)(hr:vK l (qQv.drop k)=qZ6 l):((qQv.getD k []).length:Int)=(qZ6 l:Int):=by
 have hl:k < qQv.length:=h;rw[List.drop_eq_getElem_cons hl,vK]at hr;rw[List.getD_eq_getElem?_getD,List.getElem?_eq_getElem hl,Option.getD_some]at *;rw[if_pos hp]at hr;omega
theorem sign_miss{l:List UInt8}{k:Nat}(h:k < 29)(hp:Lib.hasPrefix l (qQv.getD k [])=false)(hr:vK l (qQv.drop k)=qZ6 l):vK l (qQv.drop (k+1))=qZ6 l:=by
 have hl:k < qQv.length:=h;rw[List.drop_eq_getElem_cons hl,vK]at hr;rw[List.getD_eq_getElem?_getD,List.getElem?_eq_getElem hl,Option.getD_some]at *;rw[if_neg (by simp[hp])]at hr;exact hr
theorem sign_end{l:List UInt8}{k:Nat}(h:k<=29)(j:¬k < 29)(hr:vK l (qQv.drop k)=qZ6 l):(0:Int)=(qZ6 l:Int):=by
 obtain rfl:k=29:=by omega
 have:vK l (qQv.drop 29)=0:=rfl;omega
theorem sign_any(s:ByteArray)(w:World)(ht:qZO w) :
 Calls prog 58 #[.string s] w fun e w'=>e=.returned (.int .i64 (qZ6 s.data.toList))/\w=w':=by
 obtain⟨b,G,I,ht⟩:=ht;have g:=ht.tg;go_enter func58,ntmps58
 go_wp2
 go_loop [7] (fun i=>∃ k:Nat,k<=29/\i=.int .i64 k/\vK s.data.toList (qQv.drop k)=qZ6 s.data.toList) (fun i=>29 - (intOf i).toNat)
 case atStart=>exact⟨0,Nat.zero_le _,rfl,rfl⟩
 case round =>
  obtain⟨k,J,rfl,hr⟩:=hrel;have C:=hI hr;clear hr;by_cases j:k < 29
  ·have hc:=ht.tn k j;have O:=hI ht;clear ht g;have z:=fun w=>Tryz.strings_HasPrefix s ⟨(qQv.getD k []).toArray⟩ w
   dsimp only at z
   cases hp:Lib.hasPrefix s.data.toList (qQv.getD k [])
   ·have A:=hI z;clear z;have y:=hI hp;clear hp;go_wp2_with (go_at_call 51;refine(A.o _).mono ?_;rintro e w' ⟨rfl,rfl⟩;rw[y.o])
    go_round
    case rel=>exact⟨k+1,by omega,by go_num,sign_miss j y.o C.o⟩
    case measure=>simp[intOf];omega
   ·have A:=hI z;clear z;have y:=hI hp;clear hp;go_wp2_with (go_at_call 51;refine(A.o _).mono ?_;rintro e w' ⟨rfl,rfl⟩;rw[y.o])
    go_ret;exact⟨qQ6 (by have:=sign_hit j y.o C.o;simpa using this),rfl⟩
  ·clear g ht;go_wp2
   go_ret;exact⟨qQ6 (sign_end J j C.o),rfl⟩
theorem gap_any(s:ByteArray)(w:World)(hs:s.size<=maxLen) :
 Calls prog 39 #[.string s] w fun e w'=>e=.returned (.int .i64 (qQC s.data.toList))/\w=w':=by
 have j:=fun w=>Tryz.strings_HasPrefix s ⟨#[47,47]⟩ w
 have e:(⟨#[47,47]⟩:ByteArray).data.toList=cmt:=rfl;rw[e]at j;clear e;unfold qQC;cases hp:Lib.hasPrefix s.data.toList cmt
 ·have z:=hI j;clear j;have y:=hI hp;clear hp;rw[if_neg (by decide)];go_enter func39,ntmps39
  go_wp2_with (first
   | (go_at_call 51;refine(z.o _).mono ?_;rintro e w' ⟨rfl,rfl⟩;rw[y.o])
   | (go_at_call 52;refine(span_blank _ _ hs).mono ?_;rintro e w' ⟨rfl,rfl⟩))
  go_ret;exact⟨rfl,rfl⟩
 ·have z:=hI j;clear j;have y:=hI hp;clear hp;rw[if_pos rfl];go_enter func39,ntmps39
  go_wp2_with (first
   | (go_at_call 51;refine(z.o _).mono ?_;rintro e w' ⟨rfl,rfl⟩;rw[y.o])
   | (go_at_call 52;refine(span_ink _ _ hs).mono ?_;rintro e w' ⟨rfl,rfl⟩))
  go_ret;exact⟨rfl,rfl⟩
theorem head_at(s:ByteArray)(h:0 < s.size):∃ r,s.data.toList=s[0] :: r:=⟨_,by have:=qWo s 0 h;simpa using this⟩
theorem qUY{a b c d:Int}(j:a=c)(h2:b=d):Ending.returned (.tuple #[.int .i64 a, .int .i64 b])=.returned (.tuple #[.int .i64 c, .int .i64 d]):=by rw[j,h2]
theorem qJ7(s:ByteArray)(w:World)(hs:s.size<=maxLen)(O:0 < s.size)(ht:qZO w) :
 Calls prog 41 #[.string s] w fun e w'=>e=.returned (.tuple #[.int .i64 (vA s.data.toList), .int .i64 (zZ s.data.toList)])/\w=w':=by
 obtain⟨r,hr⟩:=head_at s O;have y:vA s.data.toList=if qZx (s[0].toNat:Int)then 0 else if qQa (s[0].toNat:Int) < 10 then 1 else 2:=by rw[hr];rfl
 have j:zZ s.data.toList=if qZx (s[0].toNat:Int)then xQ qQZ s.data.toList else if qQa (s[0].toNat:Int) < 10 then xQ qQZ s.data.toList else qZ6 s.data.toList:=by
  conv=>lhs;rw[hr]
  rw[zZ,<-hr]
 have hd:=qWP (s[0].toNat:Int);have b0:=qJa s[0];have l1:=fun w=>qKI (s[0].toNat:Int) w b0.1 b0.2
 have l2:=fun w=>qXY (s[0].toNat:Int) w b0.1 b0.2
 have I:=hI l1;have J:=hI l2;have R:=hI ht;clear l1 l2 hr ht;cases hl:qZx (s[0].toNat:Int)
 ·by_cases z:qQa (s[0].toNat:Int) < 10
  ·rw[hl,if_neg (by decide),if_pos z]at y j;have A:=hI y;have C:=hI j;have G:=hI hl;clear y j hl;go_enter func41,ntmps41
   go_wp2_with (first
    | (go_at_call 56;refine(I.o _).mono ?_;rintro e w' ⟨rfl,rfl⟩;rw[G.o])
    | (go_at_call 57;refine(J.o _).mono ?_;rintro e w' ⟨rfl,rfl⟩)
    | (go_at_call 52;refine(qUx _ _ hs).mono ?_;rintro e w' ⟨rfl,rfl⟩))
   go_ret2
   exact⟨qUY A.o.symm (by rw[C.o]),rfl⟩
  ·rw[hl,if_neg (by decide),if_neg z]at y j;have A:=hI y;have C:=hI j;have G:=hI hl;clear y j hl;go_enter func41,ntmps41
   go_wp2_with (first
    | (go_at_call 56;refine(I.o _).mono ?_;rintro e w' ⟨rfl,rfl⟩;rw[G.o])
    | (go_at_call 57;refine(J.o _).mono ?_;rintro e w' ⟨rfl,rfl⟩)
    | (go_at_call 58;refine(sign_any _ _ R.o).mono ?_;rintro e w' ⟨rfl,rfl⟩))
   go_ret2
   exact⟨qUY A.o.symm (by rw[C.o]),rfl⟩
 ·rw[hl,if_pos rfl]at y j;have A:=hI y;have C:=hI j;have G:=hI hl;clear y j hl;go_enter func41,ntmps41
  go_wp2_with (first
   | (go_at_call 56;refine(I.o _).mono ?_;rintro e w' ⟨rfl,rfl⟩;rw[G.o])
   | (go_at_call 52;refine(qUx _ _ hs).mono ?_;rintro e w' ⟨rfl,rfl⟩))
  go_ret2
  exact⟨qUY A.o.symm (by rw[C.o]),rfl⟩
theorem qKc{a b:Int}{x y:Bool}(j:a=b)(h2:x=y):Ending.returned (.tuple #[.int .u64 a, .bool x])=.returned (.tuple #[.int .u64 b, .bool y]):=by rw[j,h2]
theorem qPR{base acc:Int}{d:ByteArray}{k:Nat}{o:Option Int}(h:k < d.size)(hr:xJ base acc (d.data.toList.drop k)=o) :
 (if base<=qQa (d[k].toNat:Int)\/(18446744073709551615 - qQa (d[k].toNat:Int)) / base < acc then none else xJ base (acc * base+qQa (d[k].toNat:Int)) (d.data.toList.drop (k+1)))=o:=by
 rw[qWo d k h,xJ]at hr;exact hr
theorem qJN{base acc x:Int}{o p:Option Int}(h:base<=x\/(18446744073709551615 - x) / base < acc)
 (hr:(if base<=x\/(18446744073709551615 - x) / base < acc then none else p)=o):(0:Int)=o.getD 0/\false=o.isSome:=by
 rw[if_pos h]at hr;subst hr;exact⟨rfl,rfl⟩
theorem num_yes{base acc x:Int}{o p:Option Int}(j:¬base<=x)(h2:¬(18446744073709551615 - x) / base < acc)
 (hr:(if base<=x\/(18446744073709551615 - x) / base < acc then none else p)=o):p=o:=by
 rw[if_neg (fun h=>h.elim j h2)]at hr;exact hr
theorem qWp{base acc:Int}{d:ByteArray}{k:Nat}{o:Option Int}(h:k<=d.size)(j:¬k < d.size)(hr:xJ base acc (d.data.toList.drop k)=o):acc=o.getD 0/\true=o.isSome:=by
 obtain rfl:k=d.size:=by omega
 rw[List.drop_of_length_le (by simp)]at hr;subst hr;exact⟨rfl,rfl⟩
theorem qXf{d:ByteArray}(h:0 < d.size):d.toList.isEmpty=false:=by
 rw[Lib.toList_data];obtain⟨r,hr⟩:=head_at d h;rw[hr];rfl
theorem number_10(s d:ByteArray)(w:World)(hs:d.size<=maxLen)(Z:0 < d.size)
 (I:∀ w,Calls prog 59 #[.string s, .string ⟨#[48,120]⟩] w fun e w'=>e=.returned (.tuple #[.string d, .bool false])/\w=w') :
 Calls prog 42 #[.string s] w fun e w'=>e=.returned (.tuple #[.int .u64 ((xJ 10 0 d.data.toList).getD 0), .bool (xJ 10 0 d.data.toList).isSome])/\w=w':=by
 unfold maxLen at hs;have X:=hI I;clear I;have hE:=qXf Z;have he:=hI (rfl:xJ 10 0 d.data.toList=xJ 10 0 d.data.toList);generalize R:xJ 10 0 d.data.toList=o;have HO:=hI R;clear R he;go_enter func42,ntmps42
 go_wp2_with (go_at_call 59;refine(X.o _).mono ?_;rintro e w' ⟨rfl,rfl⟩)
 go_loop [7,20] (fun v i=>∃ (k:Nat) (acc:Int),k<=d.size/\i=.int .i64 k/\v=.int .u64 acc/\0<=acc/\acc<=18446744073709551615/\xJ 10 acc (d.data.toList.drop k)=o) (fun _ i=>d.size - (intOf i).toNat)
 case atStart=>exact⟨0,0,Nat.zero_le _,rfl,rfl,by decide,by decide,by simpa using HO.o⟩
 case round =>
  obtain⟨k,acc,O,rfl,rfl,d3,U,hr⟩:=hrel;by_cases y:k < d.size
  ·have C:=qPR y hr;have V:=qWP (d[k].toNat:Int);have hb:=qJa d[k];have l2:=fun w=>qXY (d[k].toNat:Int) w hb.1 hb.2
   generalize hX:qQa (d[k].toNat:Int)=x at *;have G:=hI l2;have j:=hI C;clear l2 C hr hX hb;obtain⟨d2,Y⟩:=V;by_cases A:10<=x
   ·go_wp2_with (go_at_call 57;refine(G.o _).mono ?_;rintro e w' ⟨rfl,rfl⟩)
    go_ret2
    exact⟨qKc (qJN (.inl A) j.o).1 (qJN (.inl A) j.o).2,rfl⟩
   ·by_cases z:(18446744073709551615 - x) / 10 < acc
    ·go_wp2_with (go_at_call 57;refine(G.o _).mono ?_;rintro e w' ⟨rfl,rfl⟩)
     go_ret2
     exact⟨qKc (qJN (.inr z) j.o).1 (qJN (.inr z) j.o).2,rfl⟩
    ·go_wp2_with (go_at_call 57;refine(G.o _).mono ?_;rintro e w' ⟨rfl,rfl⟩)
     go_round
     case rel=>exact⟨k+1,acc * 10+x,by omega,by go_num,rfl,by omega,by omega,num_yes (by omega) (by omega) j.o⟩
     case measure=>simp[intOf];omega
  ·have J:=hI hr;clear hr;go_wp2
   go_ret2
   exact⟨qKc (qWp O y J.o).1 (qWp O y J.o).2,rfl⟩
theorem number_16(s d:ByteArray)(w:World)(hs:d.size<=maxLen)(Z:0 < d.size)
 (I:∀ w,Calls prog 59 #[.string s, .string ⟨#[48,120]⟩] w fun e w'=>e=.returned (.tuple #[.string d, .bool true])/\w=w') :
 Calls prog 42 #[.string s] w fun e w'=>e=.returned (.tuple #[.int .u64 ((xJ 16 0 d.data.toList).getD 0), .bool (xJ 16 0 d.data.toList).isSome])/\w=w':=by
 unfold maxLen at hs;have X:=hI I;clear I;have hE:=qXf Z;have he:=hI (rfl:xJ 16 0 d.data.toList=xJ 16 0 d.data.toList);generalize R:xJ 16 0 d.data.toList=o;have HO:=hI R;clear R he;go_enter func42,ntmps42
 go_wp2_with (go_at_call 59;refine(X.o _).mono ?_;rintro e w' ⟨rfl,rfl⟩)
 go_loop [7,20] (fun v i=>∃ (k:Nat) (acc:Int),k<=d.size/\i=.int .i64 k/\v=.int .u64 acc/\0<=acc/\acc<=18446744073709551615/\xJ 16 acc (d.data.toList.drop k)=o) (fun _ i=>d.size - (intOf i).toNat)
 case atStart=>exact⟨0,0,Nat.zero_le _,rfl,rfl,by decide,by decide,by simpa using HO.o⟩
 case round =>
  obtain⟨k,acc,O,rfl,rfl,d3,U,hr⟩:=hrel;by_cases y:k < d.size
  ·have C:=qPR y hr;have V:=qWP (d[k].toNat:Int);have hb:=qJa d[k];have l2:=fun w=>qXY (d[k].toNat:Int) w hb.1 hb.2
   generalize hX:qQa (d[k].toNat:Int)=x at *;have G:=hI l2;have j:=hI C;clear l2 C hr hX hb;obtain⟨d2,Y⟩:=V;by_cases A:16<=x
   ·go_wp2_with (go_at_call 57;refine(G.o _).mono ?_;rintro e w' ⟨rfl,rfl⟩)
    go_ret2
    exact⟨qKc (qJN (.inl A) j.o).1 (qJN (.inl A) j.o).2,rfl⟩
   ·by_cases z:(18446744073709551615 - x) / 16 < acc
    ·go_wp2_with (go_at_call 57;refine(G.o _).mono ?_;rintro e w' ⟨rfl,rfl⟩)
     go_ret2
     exact⟨qKc (qJN (.inr z) j.o).1 (qJN (.inr z) j.o).2,rfl⟩
    ·go_wp2_with (go_at_call 57;refine(G.o _).mono ?_;rintro e w' ⟨rfl,rfl⟩)
     go_round
     case rel=>exact⟨k+1,acc * 16+x,by omega,by go_num,rfl,by omega,by omega,num_yes (by omega) (by omega) j.o⟩
     case measure=>simp[intOf];omega
  ·have J:=hI hr;clear hr;go_wp2
   go_ret2
   exact⟨qKc (qWp O y J.o).1 (qWp O y J.o).2,rfl⟩
theorem qPS(s:ByteArray)(w:World)(b:Bool)
 (j:∀ w,Calls prog 59 #[.string s, .string ⟨#[48,120]⟩] w fun e w'=>e=.returned (.tuple #[.string ⟨#[]⟩, .bool b])/\w=w') :
 Calls prog 42 #[.string s] w fun e w'=>e=.returned (.tuple #[.int .u64 0, .bool false])/\w=w':=by
 have y:=hI j;clear j;cases b;all_goals
  go_enter func42,ntmps42
  go_wp2_with (go_at_call 59;refine(y.o _).mono ?_;rintro e w' ⟨rfl,rfl⟩)
  go_ret2
  exact⟨rfl,rfl⟩
theorem bs_nil{l:List UInt8}(h:l=[]):(⟨l.toArray⟩:ByteArray)=⟨#[]⟩:=by rw[h]
theorem len_pos{l:List UInt8}(h:¬l=[]):0 < (⟨l.toArray⟩:ByteArray).size:=by
 have:(⟨l.toArray⟩:ByteArray).size=l.length:=by show l.toArray.size=_;simp
 rw[this];cases l with
 | nil=>exact absurd rfl h
 | cons a r=>simp
theorem qW0(s:ByteArray)(w:World)(hs:s.size<=maxLen) :
 Calls prog 42 #[.string s] w fun e w'=>e=.returned (.tuple #[.int .u64 ((qJg s.data.toList).getD 0), .bool (qJg s.data.toList).isSome])/\w=w':=by
 have o:∀ w,Calls prog 59 #[.string s, .string ⟨#[48,120]⟩] w fun e w'=>e=.returned (.tuple #[.string ⟨(Lib.trimPrefix s.data.toList qWl).toArray⟩, .bool (Lib.hasPrefix s.data.toList qWl)])/\w=w' :=
  fun w=>(Tryz.strings_CutPrefix s ⟨#[48,120]⟩ w).mono fun e w' h=>⟨h.1,h.2.symm⟩
 unfold qJg;have y:s.data.toList.length<=maxLen:=hs;have z:∀ l:List UInt8,(⟨l.toArray⟩:ByteArray).size=l.length:=fun l=>by show l.toArray.size=_;simp
 cases hp:Lib.hasPrefix s.data.toList qWl
 ·have e:Lib.trimPrefix s.data.toList qWl=s.data.toList:=by unfold Lib.trimPrefix;rw[hp];rfl
  rw[e,hp]at o;rw[if_neg (by decide)];by_cases j:s.data.toList=[]
  ·rw[if_pos j];rw[bs_nil j]at o;exact qPS s w _ o
  ·rw[if_neg j];have:=number_10 s ⟨s.data.toList.toArray⟩ w (by rw[z];exact y) (len_pos j) o;simpa using this
 ·have e:Lib.trimPrefix s.data.toList qWl=s.data.toList.drop 2:=by unfold Lib.trimPrefix;rw[hp];rfl
  rw[e,hp]at o;rw[if_pos rfl];by_cases j:s.data.toList.drop 2=[]
  ·rw[if_pos j];rw[bs_nil j]at o;exact qPS s w _ o
  ·rw[if_neg j];have:=number_16 s ⟨(s.data.toList.drop 2).toArray⟩ w (by rw[z,List.length_drop];omega) (len_pos j) o;simpa using this
theorem rnumber_nil(w:World):Calls prog 36 #[.string ⟨#[]⟩] w fun e w'=>e=.returned (.tuple #[.int .u64 0, .bool false])/\w=w':=by
 go_enter func36,ntmps36
 go_wp2
 go_loop [6] (fun i=>i=.int .i64 0) (fun _=>0)
 case atStart=>rfl
 case round =>
  subst hrel;go_wp2
  go_ret2
  exact⟨rfl,rfl⟩
theorem bs_eq{s:ByteArray}{l:List UInt8}(h:s.data.toList=l):s=⟨l.toArray⟩:=by
 obtain⟨⟨d⟩⟩:=s;cases h;rfl
def kJ(l:List UInt8):List (List UInt8)->Bool
 | []=>false
 | g :: r=>if g=l then true else kJ l r
def qWm(l:List UInt8):Bool:=kJ l qZ3
theorem key_hit{l:List UInt8}{k:Nat}(h:k < 19)(hp:qZ3.getD k []=l)(hr:kJ l (qZ3.drop k)=qWm l):true=qWm l:=by
 have hl:k < qZ3.length:=h;rw[List.drop_eq_getElem_cons hl,kJ]at hr;rw[List.getD_eq_getElem?_getD,List.getElem?_eq_getElem hl,Option.getD_some]at *;rw[if_pos hp]at hr;exact hr
theorem key_miss{l:List UInt8}{k:Nat}(h:k < 19)(hp:¬qZ3.getD k []=l)(hr:kJ l (qZ3.drop k)=qWm l):kJ l (qZ3.drop (k+1))=qWm l:=by
 have hl:k < qZ3.length:=h;rw[List.drop_eq_getElem_cons hl,kJ]at hr;rw[List.getD_eq_getElem?_getD,List.getElem?_eq_getElem hl,Option.getD_some]at *;rw[if_neg hp]at hr;exact hr
theorem key_end{l:List UInt8}{k:Nat}(h:k<=19)(j:¬k < 19)(hr:kJ l (qZ3.drop k)=qWm l):false=qWm l:=by
 obtain rfl:k=19:=by omega
 exact hr
theorem qU6(a:List UInt8)(s:ByteArray):((⟨a.toArray⟩:ByteArray).toList == s.toList)=decide (a=s.data.toList):=by
 rw[Lib.toList_data,Lib.toList_data,Bool.eq_iff_iff];simp
theorem key_any(s:ByteArray)(w:World)(ht:Keys w) :
 Calls prog 140 #[.string s] w fun e w'=>e=.returned (.bool (qWm s.data.toList))/\w=w':=by
 obtain⟨b,I,C,ht⟩:=ht;have g:=ht.tg;go_enter func140,ntmps140
 go_wp2
 go_loop [7] (fun i=>∃ k:Nat,k<=19/\i=.int .i64 k/\kJ s.data.toList (qZ3.drop k)=qWm s.data.toList) (fun i=>19 - (intOf i).toNat)
 case atStart=>exact⟨0,Nat.zero_le _,rfl,rfl⟩
 case round =>
  obtain⟨k,G,rfl,hr⟩:=hrel;have z:=hI hr;clear hr;by_cases j:k < 19
  ·have hc:=ht.tn k j;have O:=hI ht;have A:=qU6 (qZ3.getD k []) s;generalize J:(⟨(qZ3.getD k []).toArray⟩:ByteArray)=a at *;clear ht g J;by_cases hp:qZ3.getD k []=s.data.toList
   ·rw[decide_eq_true hp]at A;have y:=hI hp;clear hp;go_wp2
    go_ret;exact⟨qQ4 (key_hit j y.o z.o),rfl⟩
   ·rw[decide_eq_false hp]at A;have y:=hI hp;clear hp;go_wp2
    go_round
    case rel=>exact⟨k+1,by omega,by go_num,key_miss j y.o z.o⟩
    case measure=>simp[intOf];omega
  ·clear g ht;go_wp2
   go_ret;exact⟨qQ4 (key_end G j z.o),rfl⟩
theorem jS(w:World)(r:Option Nat):w.grownBy w r:=⟨rfl,rfl,rfl,Nat.le_refl _,fun _ _ _=>rfl⟩
theorem qR{a b c:World}{r:Option Nat}(h:a.grownBy b r)(k:b.grownBy c r):a.grownBy c r :=
 ⟨k.os.trans h.os,k.tape.trans h.tape,k.output.trans h.output,Nat.le_trans h.size k.size,fun i hi hr=>(k.block i (Nat.lt_of_lt_of_le hi h.size) hr).trans (h.block i hi hr)⟩
theorem vC{a b:World}{B o:Nat}(h:a.grownBy b (some B))(v:Value):a.grownBy (b.setCell ⟨B,o,none⟩ v) (some B):=by
 have hb:=(Below.refl 0 b).setCell (p:=⟨B,o,none⟩) (Nat.zero_le _) v;refine qR h ⟨hb.os,hb.tape,hb.output,hb.size,fun k _ hr=>hS b _ v k (fun e=>hr (by rw[e]))⟩
theorem zY{a b:World}{r:Option Nat}(h:a.grownBy b r)(o:Obj):a.grownBy (b.alloc o) r:=qR h (World.grownBy_alloc b o r)
theorem vX{a b:World}{r:Option Nat}(h:a.grownBy b r):a.grownBy b.drew r:=by
 have hb:=(Below.refl b.1.size b).drew;exact qR h ⟨hb.os,hb.tape,hb.output,hb.size,fun k hk _=>hb.block k hk⟩
structure qQH(B:Nat)(r:ByteArray)(ln c:Int)(w:World):Prop where
 c0:w.cell? ⟨B,0,none⟩=some (.string r)
 c1:w.cell? ⟨B,1,none⟩=some (.int .i64 ln)
 c2:w.cell? ⟨B,2,none⟩=some (.int .i64 c)
 f0:w.frozen? ⟨B,0,none⟩=false
 f1:w.frozen? ⟨B,1,none⟩=false
 f2:w.frozen? ⟨B,2,none⟩=false
theorem qQH.a{B:Nat}{r:ByteArray}{ln c:Int}{w:World}(h:qQH B r ln c w):w.cell? ⟨B,0,none⟩=some (.string r)/\w.cell? ⟨B,1,none⟩=some (.int .i64 ln)/\w.cell? ⟨B,2,none⟩=some (.int .i64 c)/\True:=⟨h.c0,h.c1,h.c2,trivial⟩
theorem qQH.lt{B:Nat}{r:ByteArray}{ln c:Int}{w:World}(h:qQH B r ln c w):B < w.1.size:=by
 by_cases j:B < w.1.size
 ·exact j
 ·exfalso;have:w.1[B]? = none:=by simp;omega
  have:=h.c0;simp[World.cell?, *]at this
theorem qQH.kept{B:Nat}{r:ByteArray}{ln c:Int}{w w':World}{row:Option Nat}(h:qQH B r ln c w)(hg:w.grownBy w' row)(j:some B≠row):qQH B r ln c w':=by
 have hb:=hg.block B h.lt j;exact⟨(cB hb).trans h.c0,(cB hb).trans h.c1,(cB hb).trans h.c2,(World.frozen?_of_block hb).trans h.f0,(World.frozen?_of_block hb).trans h.f1,(World.frozen?_of_block hb).trans h.f2⟩
theorem qQH.set0{B:Nat}{r:ByteArray}{ln c:Int}{w:World}(h:qQH B r ln c w)(j:ByteArray):qQH B j ln c (w.setCell ⟨B,0,none⟩ (.string j)):=by
 have⟨y,s,h2,_⟩:=h.a;have o:=h.f0;have g1:=h.f1;have g2:=h.f2;constructor <;> simp[go_sem, *]
theorem qQH.set1{B:Nat}{r:ByteArray}{ln c:Int}{w:World}(h:qQH B r ln c w)(x:Int):qQH B r x c (w.setCell ⟨B,1,none⟩ (.int .i64 x)):=by
 have⟨s,o,h2,_⟩:=h.a;have j:=h.f0;have g1:=h.f1;have g2:=h.f2;constructor <;> simp[go_sem, *]
theorem qQH.set2{B:Nat}{r:ByteArray}{ln c:Int}{w:World}(h:qQH B r ln c w)(x:Int):qQH B r ln x (w.setCell ⟨B,2,none⟩ (.int .i64 x)):=by
 have⟨s,o,h2,_⟩:=h.a;have j:=h.f0;have g1:=h.f1;have g2:=h.f2;constructor <;> simp[go_sem, *]
theorem qXR(r:ByteArray)(n:Nat)(h:n<=r.size):(r.extract 0 n).size=n:=by
 rw[qQQ,Lib.extract_data];simp;exact Nat.min_eq_left h
theorem take_at(t:ByteArray)(k:Nat)(h:k < t.size):t.data.toList.take (k+1)=t.data.toList.take k++[t[k]]:=by
 rw[List.take_succ_eq_append_getElem (by simpa using h)];rfl
theorem qVm(B:Nat)(r:ByteArray)(ln c:Int)(n:Nat)(w:World)(A:qQH B r ln c w)(Y:n<=r.size)(hs:r.size<=65536)(U:1<=ln)(h2:1<=c)(h3:ln<=1000000)(h4:c<=1000000) :
 Calls prog 40 #[.pointer (some ⟨B,0,none⟩), .int .i64 n] w fun e w'=>e=.returned (.string (r.extract 0 n)) /\
  qQH B (r.extract n r.size) (kU (r.data.toList.take n) ln c).1 (kU (r.data.toList.take n) ln c).2 w'/\w.grownBy w' (some B):=by
 have ht:(r.extract 0 n).data.toList=r.data.toList.take n:=by rw[Lib.extract_data];simp
 have R:=qXR r n Y;have c0:=A.c0;have X:=hI ht;have V:=hI R;clear ht R;go_enter func40,ntmps40
 go_wp2
 go_loopw [14] (fun i wr=>∃ k:Nat,k<=n/\i=.int .i64 k/\qQH B r (kU ((r.extract 0 n).data.toList.take k) ln c).1 (kU ((r.extract 0 n).data.toList.take k) ln c).2 wr/\w.grownBy wr (some B)) (fun i _=>n - (intOf i).toNat)
 case atStart=>exact⟨0,Nat.zero_le _,rfl,by simpa[kU]using A,jS _ _⟩
 case round =>
  obtain⟨k,hk,rfl,j,hg⟩:=hrel;have Z:=adv_bd ((r.extract 0 n).data.toList.take k) ln c U h2;have O:((r.extract 0 n).data.toList.take k).length<=k:=List.length_take_le _ _;clear c0 A;have c0:=j.c0;have c1:=j.c1;have c2:=j.c2;have f0:=j.f0;have f1:=j.f1;have f2:=j.f2;have C:=hI j;clear j;by_cases J:k < n
  ·have y:k < (r.extract 0 n).size:=by rw[V.o];exact J
   have s:=adv_snoc ((r.extract 0 n).data.toList.take k) (r.extract 0 n)[k] ln c;rw[<-take_at _ k y]at s;have z:=hI s;clear s;generalize hX:kU ((r.extract 0 n).data.toList.take k) ln c=x at *;obtain⟨x1,x2⟩:=x;simp only at *;clear hX;by_cases hb:((r.extract 0 n)[k].toNat:Int)=10
   ·have I:(((r.extract 0 n)[k].toNat:Int) == 10)=true:=by simpa using hb
    have G:=hI hb;clear hb;go_wp2
    go_roundw
    case rel =>
     have:=z.o;rw[if_pos G.o]at this;exact⟨k+1,by omega,by go_num,by rw[this];exact((C.o.set2 _).set1 _).set2 _,vC (vC (vC hg _) _) _⟩
    case measure=>simp[intOf];omega
   ·have I:(((r.extract 0 n)[k].toNat:Int) == 10)=false:=by simpa using hb
    have G:=hI hb;clear hb;go_wp2
    go_roundw
    case rel =>
     have:=z.o;rw[if_neg G.o]at this;exact⟨k+1,by omega,by go_num,by rw[this];exact C.o.set2 _,vC hg _⟩
    case measure=>simp[intOf];omega
  ·obtain rfl:k=n:=by omega
   have e:(r.extract 0 k).data.toList.take k=r.data.toList.take k:=by rw[X.o,List.take_take,Nat.min_self]
   go_wp2
   go_ret;refine⟨rfl,?_,vC hg _⟩;rw[<-e];exact C.o.set0 _
theorem gap_nil:qQC []=0:=rfl
theorem skip_fuel(n m:Nat)(l:List UInt8)(ln c:Int)(j:l.length<=n)(hm:l.length<=m):qQp n l ln c=qQp m l ln c:=by
 induction n generalizing m l ln c with
 | zero =>
  obtain rfl:l=[]:=List.length_eq_zero_iff.mp (by omega);cases m with
  | zero=>rfl
  | succ m=>rw[qQp,qQp,if_pos gap_nil]
 | succ n ih =>
  cases m with
  | zero =>
   obtain rfl:l=[]:=List.length_eq_zero_iff.mp (by omega);rw[qQp,qQp,if_pos gap_nil]
  | succ m =>
   rw[qQp,qQp];by_cases h:qQC l=0
   ·rw[if_pos h,if_pos h]
   ·rw[if_neg h,if_neg h];exact ih _ _ _ _ (by rw[List.length_drop];omega) (by rw[List.length_drop];omega)
def vO(l:List UInt8)(ln c:Int):List UInt8×Int×Int:=qQp l.length l ln c
theorem qUw{l:List UInt8}{ln c:Int}(h:qQC l=0):vO l ln c=(l,ln,c):=by
 unfold vO;cases hl:l.length with
 | zero=>rfl
 | succ n=>rw[qQp,if_pos h]
theorem skip_go{l:List UInt8}{ln c:Int}(h:¬qQC l=0) :
 vO l ln c=vO (l.drop (qQC l)) (kU (l.take (qQC l)) ln c).1 (kU (l.take (qQC l)) ln c).2:=by
 have hg:=gap_le l;conv=>lhs;unfold vO
 cases hl:l.length with
 | zero=>omega
 | succ n =>
  rw[qQp,if_neg h];exact skip_fuel _ _ _ _ _ (by rw[List.length_drop];omega) (Nat.le_refl _)
def qWs(B:Nat)(w:World):Nat:=match w.cell? ⟨B,0,none⟩with
 | some (.string r)=>r.size
 | _=>0
theorem qQH.rest{B:Nat}{r:ByteArray}{ln c:Int}{w:World}(h:qQH B r ln c w):qWs B w=r.size:=by
 unfold qWs;rw[h.c0]
structure qVs(B:Nat)(r:ByteArray)(ln c:Int)(w:World):Prop where
 at_:qQH B r ln c w
 hs:r.size<=65536
 l1:1<=ln
 c1:1<=c
 l2:ln+r.size<=1000000
 c2:c+r.size<=1000000
theorem kM(r:ByteArray)(n:Nat):(r.extract n r.size).size=r.size - n:=by
 rw[qQQ,Lib.extract_to_end,List.length_drop,qQQ]
theorem qVs.take{B n:Nat}{r:ByteArray}{ln c:Int}{w w':World}(h:qVs B r ln c w)(o:n<=r.size)
 (j:qQH B (r.extract n r.size) (kU (r.data.toList.take n) ln c).1 (kU (r.data.toList.take n) ln c).2 w') :
 qVs B (r.extract n r.size) (kU (r.data.toList.take n) ln c).1 (kU (r.data.toList.take n) ln c).2 w':=by
 have hb:=adv_bd (r.data.toList.take n) ln c h.l1 h.c1;have hl:(r.data.toList.take n).length<=n:=List.length_take_le _ _;have s:=h.hs;have h2:=h.l2;have h3:=h.c2;exact⟨j,by rw[kM];omega,by omega,by omega,by rw[kM];omega,by rw[kM];omega⟩
def Skipped(B:Nat)(r:ByteArray)(ln c:Int)(w:World)(e:Ending)(w':World):Prop :=
 e=.returned (.tuple #[])/\∃ r' ln' c',qVs B r' ln' c' w'/\(r'.data.toList,ln',c')=vO r.data.toList ln c/\r'.size<=r.size/\w.grownBy w' (some B)
def SkipRel(B:Nat)(r:ByteArray)(ln c:Int)(w:World)(v:Value)(wr:World):Prop :=
 ∃ r' ln' c',v=.int .i64 (qQC r'.data.toList)/\qVs B r' ln' c' wr/\vO r'.data.toList ln' c'=vO r.data.toList ln c/\r'.size<=r.size/\w.grownBy wr (some B)
theorem skip_any(B:Nat)(r:ByteArray)(ln c:Int)(w:World)(J:qVs B r ln c w) :
 Calls prog 19 #[.pointer (some ⟨B,0,none⟩)] w (Skipped B r ln c w):=by
 have c0:=J.at_.c0;have hs:=J.hs;have hm:r.size<=maxLen:=by unfold maxLen;omega
 go_enter func19,ntmps19
 go_wp2_with (go_at_call 39;refine(gap_any _ _ hm).mono ?_;rintro e w' ⟨rfl,rfl⟩)
 go_loopw [2] (fun v wr=>SkipRel B r ln c w v wr) (fun _ wr=>qWs B wr)
 case atStart=>exact⟨r,ln,c,rfl,J,rfl,Nat.le_refl _,jS _ _⟩
 case round =>
  obtain⟨s,y,c1,rfl,z,hk,Y,hg⟩:=hrel;have j:=hI z;have HK:=hI hk;have hg1:=gap_le s.data.toList;have d2:=hI (qQQ s);have U:=z.hs;clear c0 hs hm J hk z;by_cases C:qQC s.data.toList=0
  ·have H0:=hI C;rw[C];clear C hg1;go_wp2
   go_end0;exact⟨rfl,s,y,c1,j.o,by rw[<-HK.o,qUw H0.o],Y,hg⟩
  ·have d4:0 < qQC s.data.toList:=by omega
   have G:qQC s.data.toList<=s.size:=by rw[d2.o];exact hg1
   have I:∀ n,(s.extract n s.size).size<=maxLen:=fun n=>by rw[kM];unfold maxLen;omega
   have X:=hI I;clear I;have HT:=hI (qVm B s y c1 (qQC s.data.toList) wr j.o.at_ G U j.o.l1 j.o.c1 (by have:=j.o.l2;omega) (by have:=j.o.c2;omega));have O:=hI (fun w' h=>qVs.take (w':=w') j.o G h);have R:=hI (skip_go (ln:=y) (c:=c1) C);have A:=hI j.o.at_.rest;generalize hG:qQC s.data.toList=g at *;clear hG C;go_wp2_with (first
    | (go_at_call 40;refine(HT.o).mono ?_;rintro e w1 ⟨rfl,Z,V⟩;have d3:=Z.c0;have HA:=hI Z;clear Z)
    | (go_at_call 39;refine(gap_any _ _ (X.o _)).mono ?_;rintro e w' ⟨rfl,rfl⟩))
   go_roundw
   case rel =>
    refine⟨_,_,_,by rw[Lib.extract_data],O.o _ HA.o,?_,?_,qR hg V⟩
    ·rw[Lib.extract_to_end,<-HK.o,R.o]
    ·rw[kM];omega
   case measure =>
    rw[HA.o.rest,A.o,kM];omega
def xA(k:Int)(t:ByteArray)(m ln c:Int):Value:=.agg #[.int .i64 k, .string t, .int .u64 m, .int .i64 ln, .int .i64 c]
theorem qPG{w w':World}(h:w.grownBy w' none):Below w.1.size w w':=⟨h.os,h.tape,h.output,h.size,fun k hk=>h.block k hk (by simp)⟩
theorem qJi{w w':World}(h:qZO w)(hg:w.grownBy w' none):qZO w':=by
 obtain⟨b,o,j,s⟩:=h;exact⟨b,o,j,s.below (qPG hg)⟩
theorem token_end(B:Nat)(ln c:Int)(w:World)(j:qQH B ⟨#[]⟩ ln c w) :
 Calls prog 20 #[.pointer (some ⟨B,0,none⟩)] w fun e w'=>e=.returned (.tuple #[xA 3 ⟨#[]⟩ 0 ln c, .int .i64 0])/\qQH B ⟨#[]⟩ ln c w'/\w.grownBy w' (some B):=by
 have c0:=j.c0;have c1:=j.c1;have c2:=j.c2;have hB:=j.lt;go_enter func20,ntmps20
 go_wp2
 go_region
 go_wp2
 exact bodyPost_ret (v:=.tuple #[xA 3 ⟨#[]⟩ 0 ln c, .int .i64 0]) (by simp[results,results20,go_sem,xA]) rfl
  ⟨rfl,j.kept (row:=none) (vX (zY (zY (jS _ _) _) _)) (by simp),vX (zY (zY (jS _ _) _) _)⟩
theorem token_byte(B:Nat)(r:ByteArray)(ln c:Int)(w:World)(j:qQH B r ln c w)(ht:qZO w)(s:0 < r.size)(hs:r.size<=65536)(y:zZ r.data.toList=0) :
 Calls prog 20 #[.pointer (some ⟨B,0,none⟩)] w fun e w'=>e=.returned (.tuple #[xA 0 ⟨#[]⟩ 0 ln c, .int .i64 20])/\qQH B r ln c w'/\w.grownBy w' (some B):=by
 have c0:=j.c0;have c1:=j.c1;have c2:=j.c2;have hB:=j.lt;have I:=qXf s;have hm:r.size<=maxLen:=by unfold maxLen;omega
 have z:=hI (fun w ht=>qJ7 r w hm s ht);have G:=hI y;have C:=hI ht;have A:=hI j;clear y ht j hm;go_enter func20,ntmps20
 go_wp2
 go_region
 go_wp2_with (go_at_call 41;refine(z.o _ (qJi C.o (vX (zY (zY (jS _ none) _) _)))).mono ?_;rintro e w' ⟨rfl,rfl⟩;rw[G.o])
 exact bodyPost_ret (v:=.tuple #[xA 0 ⟨#[]⟩ 0 ln c, .int .i64 20]) (by simp[results,results20,go_sem,xA]) rfl
  ⟨rfl,A.o.kept (row:=none) (vX (zY (zY (jS _ _) _) _)) (by simp),vX (zY (zY (jS _ _) _) _)⟩
theorem qZH{W s:World}{B b:Nat}(hg:W.grownBy s (some B))(j:b≠B)(hb:b < W.1.size) :
 (∀ o,s.cell? ⟨b,o,none⟩=W.cell? ⟨b,o,none⟩)/\(∀ o,s.frozen? ⟨b,o,none⟩=W.frozen? ⟨b,o,none⟩) :=
 ⟨fun _=>cB (hg.block b hb (fun e=>j (Option.some.inj e))),fun _=>World.frozen?_of_block (hg.block b hb (fun e=>j (Option.some.inj e)))⟩
theorem qWH{w s:World}{B b o:Nat}{r:ByteArray}{ln c:Int}(hB:B < w.1.size)(hb:w.1.size<=b)(v:Value)(h:qQH B r ln c s/\w.grownBy s (some B)) :
 qQH B r ln c (s.setCell ⟨b,o,none⟩ v)/\w.grownBy (s.setCell ⟨b,o,none⟩ v) (some B):=by
 refine⟨h.1.kept (row:=some b) (vC (jS _ _) v) (fun e=>by have:=Option.some.inj e;omega),?_⟩;have j:=(Below.refl w.1.size s).setCell (p:=⟨b,o,none⟩) hb v;have hg:=h.2;exact⟨j.os.trans hg.os,j.tape.trans hg.tape,j.output.trans hg.output,Nat.le_trans hg.size j.size,fun k hk hr=>(j.block k hk).trans (hg.block k hk hr)⟩
theorem token_word (B : Nat) (r : ByteArray) (ln c A : Int) (n : Nat) (w : World) (j : qVs B r ln c w) (ht : qZO w) (J : 0 < r.size)
    (y : vA r.data.toList = A) (O : zZ r.data.toList = n) (R : 0 < n) (G : n <= r.size) (Z : (A != 1) = true) :
    Calls prog 20 #[.pointer (some ⟨B, 0, none⟩)] w fun e w' => e = .returned (.tuple #[xA A (r.extract 0 n) 0 ln c, .int .i64 0]) /\
      qQH B (r.extract n r.size) (kU (r.data.toList.take n) ln c).1 (kU (r.data.toList.take n) ln c).2 w' /\ w.grownBy w' (some B) := by
  have c0 := j.at_.c0
  have c1 := j.at_.c1
  have c2 := j.at_.c2
  have hB := j.at_.lt
  have hE := qXf J
  have hs := j.hs
  have U := j.l2
  have d2 := j.c2
  have hm : r.size <= maxLen := by unfold maxLen; omega
  have I := hI (fun w ht => qJ7 r w hm J ht)
  rw [y, O] at I
  have C := hI (fun w z => qVm B r ln c n w z G hs j.l1 j.c1 (by omega) (by omega))
  have HT := hI ht
  have V := hI j
  clear O ht j hm y
  go_enter func20, ntmps20
  go_wp2
  go_region
  go_wp2_with (first
    | (go_at_call 41; refine (I.o _ (qJi HT.o (vX (zY (zY (jS _ none) _) _)))).mono ?_; rintro e w' ⟨rfl, rfl⟩)
    | (go_at_call 40; refine (C.o _ (V.o.at_.kept (row := none) (vX (zY (zY (jS _ none) _) _)) (by simp))).mono ?_; rintro e w1 ⟨rfl, z, s⟩
       obtain ⟨X, g1⟩ := qZH (b := w.1.size) s (by omega) (by simp; omega)
       obtain ⟨e2, g2⟩ := qZH (b := w.1.size + 1) s (by omega) (by simp)
       have HA := hI z
       have Y := hI s
       clear z s))
  go_light
  refine bodyPost_ret (v := .tuple #[xA A (r.extract 0 n) 0 ln c, .int .i64 0]) (by simp [results, results20, go_sem, xA, X]) rfl ⟨rfl, ?_⟩
  repeat refine qWH hB (by omega) _ ?_
  exact ⟨HA.o, qR (vX (zY (zY (jS _ _) _) _)) Y.o⟩
theorem token_num (B : Nat) (r : ByteArray) (ln c : Int) (n : Nat) (w : World) (j : qVs B r ln c w) (ht : qZO w) (U : 0 < r.size)
    (G : vA r.data.toList = 1) (V : zZ r.data.toList = n) (X : 0 < n) (I : n <= r.size) (m : Int) (y : (qJg (r.data.toList.take n)).getD 0 = m) (A : (qJg (r.data.toList.take n)).isSome = true) :
    Calls prog 20 #[.pointer (some ⟨B, 0, none⟩)] w fun e w' => e = .returned (.tuple #[xA 1 (r.extract 0 n) m ln c, .int .i64 0]) /\
      qQH B (r.extract n r.size) (kU (r.data.toList.take n) ln c).1 (kU (r.data.toList.take n) ln c).2 w' /\ w.grownBy w' (some B) := by
  have c0 := j.at_.c0
  have c1 := j.at_.c1
  have c2 := j.at_.c2
  have hB := j.at_.lt
  have hE := qXf U
  have hs := j.hs
  have Y := j.l2
  have d2 := j.c2
  have hm : r.size <= maxLen := by unfold maxLen; omega
  have R := hI (fun w ht => qJ7 r w hm U ht)
  rw [G, V] at R
  have O := hI (fun w J => qVm B r ln c n w J I hs j.l1 j.c1 (by omega) (by omega))
  have C := hI (fun w => qW0 (r.extract 0 n) w (by rw [qXR r n I]; unfold maxLen; omega))
  have z : (r.extract 0 n).data.toList = r.data.toList.take n := by rw [Lib.extract_data]; simp
  rw [z, y, A] at C
  have HT := hI ht
  have Z := hI j
  clear V ht j hm G z y A
  go_enter func20, ntmps20
  go_wp2
  go_region
  go_wp2_with (first
    | (go_at_call 41; refine (R.o _ (qJi HT.o (vX (zY (zY (jS _ none) _) _)))).mono ?_; rintro e w' ⟨rfl, rfl⟩)
    | (go_at_call 40; refine (O.o _ (Z.o.at_.kept (row := none) (vX (zY (zY (jS _ none) _) _)) (by simp))).mono ?_; rintro e w1 ⟨rfl, J, s⟩
       obtain ⟨e1, g1⟩ := qZH (b := w.1.size) s (by omega) (by simp; omega)
       obtain ⟨e2, g2⟩ := qZH (b := w.1.size + 1) s (by omega) (by simp)
       have HA := hI J
       have HG := hI s
       clear J s)
    | (go_at_call 42; refine (C.o _).mono ?_; rintro e w' ⟨rfl, rfl⟩))
  go_light
  refine bodyPost_ret (v := .tuple #[xA 1 (r.extract 0 n) m ln c, .int .i64 0]) (by simp [results, results20, go_sem, xA, e1]) rfl ⟨rfl, ?_⟩
  repeat refine qWH hB (by omega) _ ?_
  exact ⟨HA.o, qR (vX (zY (zY (jS _ _) _) _)) HG.o⟩
theorem token_bad (B : Nat) (r : ByteArray) (ln c : Int) (n : Nat) (w : World) (j : qVs B r ln c w) (ht : qZO w) (U : 0 < r.size)
    (G : vA r.data.toList = 1) (V : zZ r.data.toList = n) (X : 0 < n) (I : n <= r.size) (m : Int) (y : (qJg (r.data.toList.take n)).getD 0 = m) (A : (qJg (r.data.toList.take n)).isSome = false) :
    Calls prog 20 #[.pointer (some ⟨B, 0, none⟩)] w fun e w' => e = .returned (.tuple #[xA 1 (r.extract 0 n) 0 ln c, .int .i64 21]) /\
      qQH B (r.extract n r.size) (kU (r.data.toList.take n) ln c).1 (kU (r.data.toList.take n) ln c).2 w' /\ w.grownBy w' (some B) := by
  have c0 := j.at_.c0
  have c1 := j.at_.c1
  have c2 := j.at_.c2
  have hB := j.at_.lt
  have hE := qXf U
  have hs := j.hs
  have Y := j.l2
  have d2 := j.c2
  have hm : r.size <= maxLen := by unfold maxLen; omega
  have R := hI (fun w ht => qJ7 r w hm U ht)
  rw [G, V] at R
  have O := hI (fun w J => qVm B r ln c n w J I hs j.l1 j.c1 (by omega) (by omega))
  have C := hI (fun w => qW0 (r.extract 0 n) w (by rw [qXR r n I]; unfold maxLen; omega))
  have z : (r.extract 0 n).data.toList = r.data.toList.take n := by rw [Lib.extract_data]; simp
  rw [z, y, A] at C
  have HT := hI ht
  have Z := hI j
  clear V ht j hm G z y A
  go_enter func20, ntmps20
  go_wp2
  go_region
  go_wp2_with (first
    | (go_at_call 41; refine (R.o _ (qJi HT.o (vX (zY (zY (jS _ none) _) _)))).mono ?_; rintro e w' ⟨rfl, rfl⟩)
    | (go_at_call 40; refine (O.o _ (Z.o.at_.kept (row := none) (vX (zY (zY (jS _ none) _) _)) (by simp))).mono ?_; rintro e w1 ⟨rfl, J, s⟩
       obtain ⟨e1, g1⟩ := qZH (b := w.1.size) s (by omega) (by simp; omega)
       obtain ⟨e2, g2⟩ := qZH (b := w.1.size + 1) s (by omega) (by simp)
       have HA := hI J
       have HG := hI s
       clear J s)
    | (go_at_call 42; refine (C.o _).mono ?_; rintro e w' ⟨rfl, rfl⟩))
  go_light
  refine bodyPost_ret (v := .tuple #[xA 1 (r.extract 0 n) 0 ln c, .int .i64 21]) (by simp [results, results20, go_sem, xA, e1]) rfl ⟨rfl, ?_⟩
  repeat refine qWH hB (by omega) _ ?_
  exact ⟨HA.o, qR (vX (zY (zY (jS _ _) _) _)) HG.o⟩
theorem qQW{l:List UInt8}(h:wK l=0):0 < zZ l:=by
 unfold wK at h;by_cases j:zZ l=0
 ·rw[if_pos j]at h;exact absurd h (by decide)
 ·omega
theorem qZT(n:Nat)(l:List UInt8)(ln c:Int):(qQp n l ln c).1.length<=l.length:=by
 induction n generalizing l ln c with
 | zero=>exact Nat.le_refl _
 | succ n ih =>
  rw[qQp];by_cases h:qQC l=0
  ·rw[if_pos h];exact Nat.le_refl _
  ·rw[if_neg h];refine Nat.le_trans (ih _ _ _) ?_;rw[List.length_drop];omega
theorem lex_fuel(n m:Nat)(l:List UInt8)(ln c:Int)(y:l.length < n)(hm:l.length < m):qJt n l ln c=qJt m l ln c:=by
 induction n generalizing m l ln c with
 | zero=>omega
 | succ n ih =>
  cases m with
  | zero=>omega
  | succ m =>
   rw[qJt,qJt];have z:=qZT l.length l ln c;generalize qQp l.length l ln c=s at *;by_cases j:s.1=[]
   ·simp only[j,if_true]
   ·by_cases h2:wK s.1=0
    ·have hp:=qQW h2;have o:=wG s.1;simp only[if_neg j,if_pos h2];rw[ih m _ _ _ (by rw[List.length_drop];omega) (by rw[List.length_drop];omega)]
    ·simp only[if_neg j,if_neg h2]
def qQD(l:List UInt8)(ln c:Int):Res:=qJt (l.length+1) l ln c
theorem qJe(l:List UInt8)(ln c:Int):qQD l ln c =
 if (vO l ln c).1=[]then .ok [⟨3,[],0,(vO l ln c).2.1,(vO l ln c).2.2⟩]
 else if wK (vO l ln c).1=0 then(qQD ((vO l ln c).1.drop (zZ (vO l ln c).1)) (kU ((vO l ln c).1.take (zZ (vO l ln c).1)) (vO l ln c).2.1 (vO l ln c).2.2).1 (kU ((vO l ln c).1.take (zZ (vO l ln c).1)) (vO l ln c).2.1 (vO l ln c).2.2).2).cons (qJX (vO l ln c).1 (vO l ln c).2.1 (vO l ln c).2.2)
 else .bad (vO l ln c).2.1 (vO l ln c).2.2 (wK (vO l ln c).1):=by
 conv=>lhs;unfold qQD;rw[qJt]
 have y:=qZT l.length l ln c;unfold vO qQD;generalize qQp l.length l ln c=s at *;by_cases j:s.1=[]
 ·simp only[j,if_true]
 ·by_cases h2:wK s.1=0
  ·have hp:=qQW h2;have o:=wG s.1;simp only[if_neg j,if_pos h2];rw[lex_fuel l.length ((s.1.drop (zZ s.1)).length+1) _ _ _ (by rw[List.length_drop];omega) (by omega)]
  ·simp only[if_neg j,if_neg h2]
theorem lex_end{l:List UInt8}{ln c j c1:Int}(o:([],j,c1)=vO l ln c):qQD l ln c=.ok [⟨3,[],0,j,c1⟩]:=by
 rw[qJe,<-o,if_pos rfl]
theorem lex_bad{l l1:List UInt8}{ln c j c1:Int}(s:(l1,j,c1)=vO l ln c)(y:¬l1=[])(o:¬wK l1=0):qQD l ln c=.bad j c1 (wK l1):=by
 rw[qJe,<-s,if_neg y,if_neg o]
theorem lex_tok{l l1:List UInt8}{ln c j c1:Int}(s:(l1,j,c1)=vO l ln c)(y:¬l1=[])(o:wK l1=0) :
 qQD l ln c=(qQD (l1.drop (zZ l1)) (kU (l1.take (zZ l1)) j c1).1 (kU (l1.take (zZ l1)) j c1).2).cons (qJX l1 j c1):=by
 rw[qJe,<-s,if_neg y,if_pos o]
def vT(t:Tok):Value:=xA t.kind ⟨t.text.toArray⟩ t.num t.line t.col
theorem qPx(r:ByteArray)(n:Nat):r.extract 0 n=⟨(r.data.toList.take n).toArray⟩:=by
 rw[Lib.extract_eq];simp
theorem pos_ne{r:ByteArray}(h:0 < r.size):¬r.data.toList=[]:=fun e=>by
 have:=qQQ r;rw[e]at this;have h3:r.size=0:=this;omega
theorem token_ok(B:Nat)(r:ByteArray)(ln c:Int)(w:World)(A:qVs B r ln c w)(ht:qZO w)(z:0 < r.size)(j:wK r.data.toList=0) :
 Calls prog 20 #[.pointer (some ⟨B,0,none⟩)] w fun e w'=>e=.returned (.tuple #[vT (qJX r.data.toList ln c), .int .i64 0]) /\
  qQH B (r.extract (zZ r.data.toList) r.size) (kU (r.data.toList.take (zZ r.data.toList)) ln c).1 (kU (r.data.toList.take (zZ r.data.toList)) ln c).2 w'/\w.grownBy w' (some B):=by
 have hp:=qQW j;have s:=wG r.data.toList;unfold wK at j;rw[if_neg (by omega)]at j;unfold vT qJX;by_cases o:vA r.data.toList=1
 ·rw[if_pos o]at j ⊢;cases y:(qJg (r.data.toList.take (zZ r.data.toList))).isSome
  ·rw[y]at j;exact absurd j (by decide)
  ·simp only[<-qPx];rw[o];exact token_num B r ln c _ w A ht z o rfl hp s _ rfl y
 ·simp only[if_neg o,<-qPx];exact token_word B r ln c _ _ w A ht z rfl rfl hp s (by simpa using o)
def BadTok(B:Nat)(ln c code:Int)(w:World)(e:Ending)(w':World):Prop :=
 ∃ k t m,e=.returned (.tuple #[xA k t m ln c, .int .i64 code])/\w.grownBy w' (some B)
theorem token_no(B:Nat)(r:ByteArray)(ln c:Int)(w:World)(A:qVs B r ln c w)(ht:qZO w)(C:0 < r.size)(j:¬wK r.data.toList=0) :
 Calls prog 20 #[.pointer (some ⟨B,0,none⟩)] w (BadTok B ln c (wK r.data.toList) w):=by
 have z:=wG r.data.toList;unfold wK at j ⊢;by_cases s:zZ r.data.toList=0
 ·rw[if_pos s];exact(token_byte B r ln c w A.at_ ht C A.hs s).mono fun e w' h=>⟨_,_,_,h.1,h.2.2⟩
 ·rw[if_neg s]at j ⊢;by_cases y:vA r.data.toList=1
  ·rw[if_pos y]at j ⊢;cases o:(qJg (r.data.toList.take (zZ r.data.toList))).isSome
   ·exact(token_bad B r ln c _ w A ht C y rfl (by omega) z _ rfl o).mono fun e w' h=>⟨_,_,_,h.1,h.2.2⟩
   ·rw[o]at j;exact absurd rfl j
  ·rw[if_neg y]at j;exact absurd rfl j
theorem qU7{l:List UInt8}(h:¬wK l=0):wK l=20\/wK l=21:=by
 unfold wK at *
 (repeat' split) <;> simp_all
theorem qY1(s:ByteArray)(w:World)(hs:s.size<=65536) :
 Calls prog 18 #[.string s] w fun e w'=>e=.returned (.string s)/\Below w.1.size w w':=by
 have H:=hI (Tryz.stringslite_Clone s w (by omega));go_enter func18,ntmps18
 go_wp2_with (go_at_call 38;refine(H.o).mono ?_;rintro e w' ⟨rfl,hb⟩)
 go_ret;exact⟨rfl,hb⟩
def qWn(t:Tok):List Value:=[.int .i64 t.kind, .string ⟨t.text.toArray⟩, .int .u64 t.num, .int .i64 t.line, .int .i64 t.col]
def qJW(l:List Tok):List Value:=l.flatMap qWn
def qXM(s:ByteArray)(w:World)(e:Ending)(w':World):Prop :=
 match qQD s.data.toList 1 1 with
 | .bad ln c code=>e=.returned (.tuple #[.slice none 0 0, .int .i64 ln, .int .i64 c, .int .i64 code])/\Below w.1.size w w'
 | .ok l=>∃ v,e=.returned (.tuple #[v, .int .i64 0, .int .i64 0, .int .i64 0])/\w'.ownsRow w.1.size 49 5 v l.length (qJW l)/\Below w.1.size w w'
def LexRel(s:ByteArray)(w:World)(B:Nat)(v:Value)(wr:World):Prop :=
 ∃ r ln c acc,qVs B r ln c wr/\Res.pre acc (qQD r.data.toList ln c)=qQD s.data.toList 1 1/\wr.ownsRow (B+1) 49 5 v acc.length (qJW acc)/\acc.length+r.size<=s.size/\Below w.1.size w wr
theorem info49:(prog.info? 49).map (fun i=>(i.zero,i.size,i.bytes))=some (some (.agg #[.int .i64 0, .string ⟨#[]⟩, .int .u64 0, .int .i64 0, .int .i64 0]),5,48):=by kernel_rfl
theorem qYH(w:World)(a b c d e:Value)(t:TypeId):∀ (j:Nat) (u:Value),[a,b,c,d,e][j]? = some u->(w.alloc (.cells #[a,b,c,d,e] t)).cell? ((⟨w.1.size,0,none⟩:Addr).add j)=some u:=by
 intro j u o;match j,o with
 | 0,h=>cases h;simp[Addr.add,go_sem]
 | 1,h=>cases h;simp[Addr.add,go_sem]
 | 2,h=>cases h;simp[Addr.add,go_sem]
 | 3,h=>cases h;simp[Addr.add,go_sem]
 | 4,h=>cases h;simp[Addr.add,go_sem]
theorem qLh(w:World)(b:Nat)(t:Tok)(hb:b=w.1.size)(T:TypeId) :
 ∀ (j:Nat) (u:Value),(qWn t)[j]? = some u->(w.alloc (.cells #[.int .i64 t.kind, .string ⟨t.text.toArray⟩, .int .u64 t.num, .int .i64 t.line, .int .i64 t.col] T)).cell? ((⟨b,0,none⟩:Addr).add j)=some u:=by
 subst hb;exact qYH _ _ _ _ _ _ _
theorem qLi(t:Tok):∀ u∈qWn t,u.oneCell'=true:=by
 intro u j;simp[qWn]at j;rcases j with rfl | rfl | rfl | rfl | rfl <;> rfl
theorem qKa{w:World}{b b':Nat}{e:TypeId}{size:Nat}{v:Value}{n:Nat}{xs:List Value}(h:w.ownsRow b e size v n xs)(hb:b'<=b):w.ownsRow b' e size v n xs:=by
 obtain⟨s,h2 | ⟨g,j,o,h3,h4,y⟩⟩:=h
 ·exact⟨s, .inl h2⟩
 ·exact⟨s, .inr ⟨g,j,o,h3,Nat.le_trans hb h4,y⟩⟩
theorem qYu(l:List Tok)(t:Tok):qJW (l++[t])=qJW l++qWn t:=by simp[qJW]
theorem pre_cons(acc:List Tok)(t:Tok)(x:Res):Res.pre acc (x.cons t)=Res.pre (acc++[t]) x:=by
 cases x <;> simp[Res.pre,Res.cons]
theorem qZO.below{w w':World}(h:qZO w)(hb:Below w.1.size w w'):qZO w':=by
 obtain⟨b,o,j,s⟩:=h;exact⟨b,o,j,s.below hb⟩
theorem qVa{w wr w2:World}{B n:Nat}{v:Value}{xs:List Value}(hB:w.1.size<=B)(s:B < wr.1.size)(j:wr.ownsRow (B+1) 49 5 v n xs)(o:Below w.1.size w wr)(hg:wr.grownBy w2 (some B)) :
 w2.ownsRow (B+1) 49 5 v n xs/\Below w.1.size w w2 :=
 ⟨j.kept hg (.inr (fun e=>by have:=(j.lt _ e).1;omega)),o.grown hg (by omega) (fun k e=>by cases e;exact hB)⟩
theorem qUb{w j z:World}{B n:Nat}{v:Value}{xs:List Value}{A G:Obj}(hB:w.1.size<=B)(I:B < j.1.size)(s:j.ownsRow (B+1) 49 5 v n xs)(C:Below w.1.size w j)
 (hg:((j.alloc A).alloc G).grownBy z v.ownBlock) :
 Below w.1.size w z/\(∀ r ln c,qQH B r ln c j->qQH B r ln c z)/\(∀ o,z.cell? ⟨j.1.size,o,none⟩=((j.alloc A).alloc G).cell? ⟨j.1.size,o,none⟩):=by
 have y:∀ k,(k=B\/k=j.1.size)->some k≠v.ownBlock:=fun k hk e=>by
  have:=s.lt k e.symm;omega
 refine⟨((C.alloc (by omega) A).alloc (by simp;omega) G).grown hg (by simp;omega) (fun k e=>by have:=(s.lt k e).1;omega),fun r ln c h=>?_,fun o=>?_⟩
 ·exact(h.kept (row:=none) (zY (zY (jS _ _) _) _) (by simp)).kept hg (y B (.inl rfl))
 ·exact cB (hg.block j.1.size (by simp;omega) (y _ (.inr rfl)))
theorem post_end{s:ByteArray}{w w':World}{e:Ending}{B:Nat}{acc:List Tok}{t:Tok}{v:Value}(hB:w.1.size<=B)(y:qQD s.data.toList 1 1=.ok (acc++[t]))
 (o:e=.returned (.tuple #[v, .int .i64 0, .int .i64 0, .int .i64 0])) (j:w'.ownsRow (B+1) 49 5 v (acc.length+1) (qJW acc++qWn t)) (hb:Below w.1.size w w'):qXM s w e w':=by
 unfold qXM;rw[y];refine⟨v,o,?_,hb⟩;rw[qYu,lL];exact qKa j (by omega)
theorem post_bad{s:ByteArray}{w w':World}{e:Ending}{ln c code:Int}(o:qQD s.data.toList 1 1=.bad ln c code)
 (j:e=.returned (.tuple #[.slice none 0 0, .int .i64 ln, .int .i64 c, .int .i64 code])) (hb:Below w.1.size w w'):qXM s w e w':=by
 unfold qXM;rw[o];exact⟨j,hb⟩
theorem nil_of{r:ByteArray}(h:r.size=0):r=⟨#[]⟩:=bs_eq (List.length_eq_zero_iff.mp h)
theorem qUQ(s:ByteArray)(w:World)(hs:s.size<=65536)(ht:qZO w):Calls prog 8 #[.string s] w (qXM s w):=by
 have hC:=hI (qY1 s w hs);have HT:=hI ht;clear ht;obtain⟨i0,hi,f6,g1,hz2⟩:=info_parts info49;have HI:=hI hi;have g3:=hI f6;have f9:=hI g1;have g2:=hI hz2;clear hi f6 g1 hz2;go_enter func8,ntmps8
 go_wp2_with (go_at_call 18;refine(hC.o).mono ?_;rintro e w1 ⟨rfl,hb⟩)
 have U:w.1.size<=w1.1.size:=hb.size;go_loopw [7] (fun v wr=>LexRel s w w1.1.size v wr) (fun _ wr=>qWs w1.1.size wr)
 case atStart =>
  refine⟨s,1,1,[],⟨⟨?_,?_,?_,?_,?_,?_⟩,hs,by decide,by decide,by omega,by omega⟩,?_,World.ownsRow_nil _ _ _ _,by simp,(hb.alloc (by omega) _)⟩
  ·simp[go_sem]
  ·simp[go_sem]
  ·simp[go_sem]
  ·simp[go_sem]
  ·simp[go_sem]
  ·simp[go_sem]
  ·cases qQD s.data.toList 1 1 <;> simp[Res.pre]
 case round =>
  obtain⟨r,ln,c,acc,hR,hk,d8,m5,f8⟩:=hrel;have g6:=hR.at_.lt;have f4:=hI hR.at_.rest;have HS:=hI (skip_any w1.1.size r ln c wr hR);have HK:=hI hk;clear hk hR hb;go_wp2_with fail
  refine(HS.o).mono ?_;rintro e w2 ⟨rfl,Z,C,c2,R,g4,m6,hg2⟩;obtain⟨y,z⟩:=qVa U g6 d8 f8 hg2;have X:w1.1.size < w2.1.size:=R.at_.lt;have f3:=hI g4;have g5:=hI (HT.o.below z);clear d8 f8 hg2 g4 g6 HS hC;by_cases h0:Z.size=0
  ·obtain rfl:=nil_of h0;have I:=hI (token_end w1.1.size C c2 w2 R.at_);have G:=hI (lex_end f3.o);clear h0 R;go_wp2_with fail
   refine(I.o).mono ?_;rintro e w3 ⟨rfl,J,hg3⟩;obtain⟨j,O⟩:=qVa U X y z hg3;have V:=J.lt;have g9:=hI J;clear J hg3 y z I;unfold xA;go_wp2_with (at_builtin;refine wpList_append_own _ rfl _ _ 23 rfl (w1.1.size+1) 49 i0 (.agg #[.int .i64 0, .string ⟨#[]⟩, .int .u64 0, .int .i64 0, .int .i64 0]) 5 48 underlying23 HI.o g3.o f9.o g2.o rfl (by decide) _ _ _ rfl ((j.alloc _).alloc _) ⟨w3.1.size+1,0,none⟩ 1 1 (qWn ⟨3,[],0,C,c2⟩) rfl rfl ?c1 (qLi _) ?c3 ?c4 ?c5 ?_)
   case c1=>exact qLh _ _ ⟨3,[],0,C,c2⟩ (by simp) _
   case c3=>unfold maxLen;omega
   case c4=>omega
   case c5=>simp;omega
   intro v4 w4 A hg4 _;obtain⟨d6,Y,d2⟩:=qUb U V j O hg4;have m2:w4.cell? ⟨w3.1.size,0,none⟩=some (.int .i64 3):=(d2 0).trans (by simp[go_sem]);have f5:=hI A;clear d2 hg4 Y A j;go_wp2
   exact bodyPost_ret (v:=.tuple #[v4, .int .i64 0, .int .i64 0, .int .i64 0]) (by simp[results,results8,go_sem]) rfl
    (post_end U (by rw[<-HK.o,G.o];rfl) rfl f5.o d6)
  ·have d9:0 < Z.size:=by omega
   have d7:=pos_ne d9;by_cases he:wK Z.data.toList=0
   ·have I:=hI (token_ok w1.1.size Z C c2 w2 R g5.o d9 he);have G:=hI (lex_tok f3.o d7 he);have m9:=qQW he;have m0:=wG Z.data.toList;have m4:=hI (qQQ Z);have g7:=qY9 Z.data.toList;have m1:=hI R;clear h0 R d7 he;go_wp2_with fail
    refine(I.o).mono ?_;rintro e w3 ⟨rfl,J,hg3⟩;obtain⟨j,O⟩:=qVa U X y z hg3;have V:=J.lt;have g9:=hI J;have HF:=hI (m1.o.take (by rw[m4.o];exact m0) J);have f7:(qJX Z.data.toList C c2).kind=vA Z.data.toList:=rfl;clear J hg3 y z I;generalize qJX Z.data.toList C c2=tk at *;have h3:(tk.kind == 3)=false:=by rw[f7];simp;omega
    clear f7 g7;unfold vT xA;go_wp2_with (at_builtin;refine wpList_append_own _ rfl _ _ 23 rfl (w1.1.size+1) 49 i0 (.agg #[.int .i64 0, .string ⟨#[]⟩, .int .u64 0, .int .i64 0, .int .i64 0]) 5 48 underlying23 HI.o g3.o f9.o g2.o rfl (by decide) _ _ _ rfl ((j.alloc _).alloc _) ⟨w3.1.size+1,0,none⟩ 1 1 (qWn tk) rfl rfl ?d1 (qLi _) ?d3 ?d4 ?d5 ?_)
    case d1=>exact qLh _ _ tk (by simp) _
    case d3=>unfold maxLen;omega
    case d4=>omega
    case d5=>simp;omega
    intro v4 w4 A hg4 _;obtain⟨d6,Y,d2⟩:=qUb U V j O hg4;have m2:w4.cell? ⟨w3.1.size,0,none⟩=some (.int .i64 tk.kind):=(d2 0).trans (by simp[go_sem]);have f5:=hI A;have g0:=hI Y;clear d2 hg4 Y A j;go_wp2
    go_roundw
    case rel =>
     refine⟨_,_,_,acc++[tk],⟨g0.o _ _ _ HF.o.at_,HF.o.hs,HF.o.l1,HF.o.c1,HF.o.l2,HF.o.c2⟩,?_,?_,?_,d6⟩
     ·rw[<-HK.o,G.o,pre_cons,Lib.extract_to_end]
     ·rw[qYu,lL];exact f5.o
     ·rw[lL,kM];simp;omega
    case measure =>
     rw[(g0.o _ _ _ HF.o.at_).rest,f4.o,kM];omega
   ·have I:=hI (token_no w1.1.size Z C c2 w2 R g5.o d9 he);have G:=hI (lex_bad f3.o d7 he);have g8:=qU7 he;generalize wK Z.data.toList=code at *;have m7:(code != 0)=true:=by simp;omega
    clear h0 R d7 he;go_wp2_with fail
    refine(I.o).mono ?_;rintro e w3 ⟨k3,t3,m3,rfl,hg3⟩;obtain⟨j,O⟩:=qVa U X y z hg3;have V:w1.1.size < w3.1.size:=Nat.lt_of_lt_of_le X hg3.size;clear hg3 y z I j;unfold xA;go_wp2
    go_region
    go_wp2
    exact bodyPost_ret (v:=.tuple #[.slice none 0 0, .int .i64 C, .int .i64 c2, .int .i64 code]) (by simp[results,results8,go_sem]) rfl
     (post_bad (by rw[<-HK.o,G.o];rfl) rfl ((O.alloc (by omega) _).drew))
theorem tokCs_at(l:List Tok)(i k:Nat)(o:k < 5)(hi:i < l.length):(qJW l)[i * 5+k]? = (qWn l[i])[k]?:=by
 induction l generalizing i with
 | nil=>simp at hi
 | cons t r ih =>
  have hc:qJW (t :: r)=qWn t++qJW r:=rfl;have j:(qWn t).length=5:=rfl;rw[hc];cases i with
  | zero =>
   rw[List.getElem?_append_left (by omega)];simp
  | succ i =>
   rw[List.getElem?_append_right (by omega),j];have:=ih i (by simpa using hi);have e:(i+1) * 5+k - 5=i * 5+k:=by omega
   rw[e,this];simp
structure qKU(g i:Nat)(t:Tok)(w:World):Prop where
 fk:w.cell? ⟨g,i * 5,none⟩=some (.int .i64 t.kind)
 ft:w.cell? ⟨g,i * 5+1,none⟩=some (.string ⟨t.text.toArray⟩)
 fm:w.cell? ⟨g,i * 5+2,none⟩=some (.int .u64 t.num)
 fl:w.cell? ⟨g,i * 5+3,none⟩=some (.int .i64 t.line)
 fc:w.cell? ⟨g,i * 5+4,none⟩=some (.int .i64 t.col)
def qYR(g:Nat)(l:List Tok)(w:World):Prop:=∀ i (h:i < l.length),qKU g i l[i] w
theorem qUr{w:World}{N:Nat}{v:Value}{l:List Tok}(h:w.ownsRow N 49 5 v l.length (qJW l))(hl:0 < l.length) :
 ∃ g j,v=.slice (some ⟨g,0,none⟩) l.length j/\N<=g/\g < w.1.size/\l.length<=j/\qYR g l w:=by
 have C:=h;rcases h.2 with⟨_,G⟩ | ⟨g,j,A,rfl,hg,hb,y,_⟩
 ·omega
 ·have s:g < w.1.size:=by
   by_cases z:g < w.1.size
   ·exact z
   ·rw[Array.getElem?_eq_none (by omega)]at hb;cases hb
  refine⟨g,j,rfl,hg,s,y,fun i hi=>?_⟩;have o:∀ k,k < 5->w.cell? ⟨g,i * 5+k,none⟩=(qWn l[i])[k]?:=fun k hk=>by
   rw[C.cellAt (i * 5+k) (by omega)];exact tokCs_at l i k hk hi
  exact⟨o 0 (by omega),o 1 (by omega),o 2 (by omega),o 3 (by omega),o 4 (by omega)⟩
theorem qKU.below{g i:Nat}{t:Tok}{w w':World}{N:Nat}(h:qKU g i t w)(hb:Below N w w')(hg:g < N):qKU g i t w' :=
 ⟨(hb.cell hg).trans h.fk,(hb.cell hg).trans h.ft,(hb.cell hg).trans h.fm,(hb.cell hg).trans h.fl,(hb.cell hg).trans h.fc⟩
theorem qYR.below{g:Nat}{l:List Tok}{w w':World}{N:Nat}(h:qYR g l w)(hb:Below N w w')(hg:g < N):qYR g l w':=fun i hi=>(h i hi).below hb hg
open Go
section
variable {P:Program} {ops:Array Oper} {Q:Exit->Act->World->Prop} {md:Region.Mode} {S:World->Prop} {tail:Nat->Bool}
def vR(P:Program)(md:Region.Mode)(ops:Array Oper)(Q:Exit->Act->World->Prop)(S:World->Prop)(tail:Nat->Bool):Nat->Array Bool->Act->World->Prop
 | 0,listed,a,w=>Region.ready md ops listed=[]/\Q .normal a w
 | fuel+1,listed,a,w =>
  (Region.ready md ops listed=[]->Q .normal a w) /\
  ∀ i∈Region.ready md ops listed,wpOp P ops Q i (fun a' w'=>(tail i=false->S w')/\vR P md ops Q S tail fuel (listed.setIfInBounds i true) a' w') a w
theorem qYy:∀ (fuel:Nat) (j:Array Bool) (a:Act) (w:World),vR P md ops Q S tail fuel j a w->wpAny P md ops Q fuel j a w
 | 0,_,_,_,h=>h
 | fuel+1,_,_,_,h=>⟨h.1,fun i hi=>wpOp_mono (fun a' w' h'=>qYy fuel _ a' w' h'.2) (h.2 i hi)⟩
theorem wW{id:Nat}{a:Act}{w:World}(hm:P.follows .mixedOrders=true)
 (h:vR P .any ops Q S tail ops.size (Array.replicate ops.size false) a { w with drawn:=w.drawn+1 }):(Code.region id ops true).wp P Q a w :=
 wp_region_any hm (qYy _ _ _ _ h)
def qKB(md:Region.Mode)(ops:Array Oper)(i:Nat):Nat->Nat->Bool
 | 0,_=>false
 | n+1,j=>((ops[j]?).map fun o=>o.after.any fun e=>Region.binds md e && (e.on == i || qKB md ops i n e.on)).getD false
def qXz(md:Region.Mode)(ops:Array Oper)(tail:Nat->Bool)(i:Nat):Bool:=(List.range ops.size).all fun j=>!tail j || qKB md ops i ops.size j
def qZM(md:Region.Mode)(ops:Array Oper)(listed:Array Bool):Bool :=
 (List.range ops.size).all fun j=>!listed.getD j false || ((ops[j]?).map fun o=>o.after.all fun e=>!Region.binds md e || listed.getD e.on false).getD false
theorem shut_at{s:Array Bool}(h:qZM md ops s=true){j:Nat}{o:Oper}(ho:ops[j]? = some o)(hl:s.getD j false=true):∀ e∈o.after,Region.binds md e=true->s.getD e.on false=true:=by
 intro e y hb;unfold qZM at h;rw[List.all_eq_true]at h;have:=h j (by simpa using(Array.getElem?_eq_some_iff.1 ho).1);rw[hl,ho]at this;simp only[bM,bO,Option.map_some,Option.getD_some,Array.all_eq_true']at this;have:=this e y;rw[hb]at this;simpa using this
theorem qYE{i:Nat}{s:Array Bool}(h:qZM md ops s=true):∀ (n j:Nat) (o:Oper),ops[j]? = some o->(∀ e∈o.after,Region.binds md e=true->s.getD e.on false=true)->qKB md ops i n j=true->s.getD i false=true:=by
 intro n;induction n with
 | zero=>intro j o _ _ hb;simp[qKB]at hb
 | succ n ih =>
  intro j o ho z hb;rw[qKB,ho]at hb;simp only[Option.map_some,Option.getD_some,Array.any_eq_true']at hb;obtain⟨e,A,h2⟩:=hb;simp only[bE,Bool.or_eq_true,beq_iff_eq]at h2;have h3:=z e A h2.1;rcases h2.2 with h4 | h4
  ·rw[<-h4];exact h3
  ·cases y:ops[e.on]? with
   | none =>
    cases n with
    | zero=>simp[qKB]at h4
    | succ n=>simp[qKB,y]at h4
   | some o2=>exact ih e.on o2 y (shut_at h y h3) h4
theorem qYs{i j:Nat}{o:Array Bool}(hb:qXz md ops tail i=true)(ho:qZM md ops o=true)(hi:o.getD i true=false)(J:j∈Region.ready md ops o):tail j=false:=by
 obtain⟨G,I,y,s⟩:=mem_ready.1 J;have z:j < ops.size:=(Array.getElem?_eq_some_iff.1 y).1;cases ht:tail j with
 | false=>rfl
 | true =>
  exfalso;unfold qXz at hb;rw[List.all_eq_true]at hb;have C:=hb j (by simpa using z);rw[ht]at C;have h2:=qYE ho ops.size j I y s (by simpa using C);rcases Nat.lt_or_ge i o.size with A | A
  ·simp[A]at h2 hi;rw[h2]at hi;cases hi
  ·simp[Array.getElem?_eq_none A]at h2
theorem shut_set{j:Nat}{o:Array Bool}(ho:qZM md ops o=true)(O:j∈Region.ready md ops o):qZM md ops (o.setIfInBounds j true)=true:=by
 obtain⟨I,R,A,y⟩:=mem_ready.1 O;unfold qZM;rw[List.all_eq_true];intro k J;have C:k < ops.size:=by simpa using J
 obtain⟨ok,s⟩:∃ ok,ops[k]? = some ok:=⟨ops[k],Array.getElem?_eq_getElem C⟩;by_cases hl:(o.setIfInBounds j true).getD k false=true
 ·rw[hl,s];simp only[bM,bO,Option.map_some,Option.getD_some,Array.all_eq_true'];intro e G;by_cases hb:Region.binds md e=true
  ·rw[hb];simp only[bM,bO];refine getD_set_true ?_;by_cases z:j=k
   ·subst z;rw[A]at s;cases s;exact y e G hb
   ·rw[getD_set_ne false z]at hl;exact shut_at ho s hl e G hb
  ·simp[hb]
 ·simp[hl]
theorem qVp{i:Nat}{O:Oper}{v:Value}(hi:ops[i]? = some O)(C:∀ (j:Nat) (o:Oper) cs b,ops[j]? = some o->o.op≠.select cs b)
 (hQ:∀ c a w,Q (.panic c) (a.put O.dst v) w->Q (.panic c) a w) (d3:qXz md ops tail i=true) (d4:tail i=false) :
 ∀ (fuel:Nat) (s:Array Bool) (a:Act) (w:World),
  (∀ j I,ops[j]? = some I->j≠i->s.getD j true=false->(∀ e∈I.after,Region.binds md e=true->e.on≠i)->O.apart ops I=true) ->
  qZM md ops s=true->i∈Region.ready md ops s->YieldsIf P ops S O v a->S w ->
  vR P md ops Q S tail fuel (s.setIfInBounds i true) (a.put O.dst v) w->vR P md ops Q S tail (fuel+1) s a w:=by
 intro fuel;induction fuel with
 | zero =>
  intro s a w _ _ hr Z hS H;refine⟨fun h=>(by rw[h]at hr;cases hr),fun j hj=>?_⟩;by_cases y:j=i
  ·subst y;exact Z.wpOp hi hS ⟨fun _=>hS,H⟩
  ·have:=ready_mono hj y;rw[H.1]at this;cases this
 | succ fuel ih =>
  intro s a w z X hr Z hS H;refine⟨fun h=>(by rw[h]at hr;cases hr),fun j hj=>?_⟩;by_cases y:j=i
  ·subst y;exact Z.wpOp hi hS ⟨fun _=>hS,H⟩
  ·have d2:=qYs d3 X (mem_ready.1 hr).1 hj;have J:=H.2 j (ready_mono hj y);obtain⟨G,I,R,U⟩:=mem_ready.1 hj;have Y:∀ e∈I.after,Region.binds md e=true->e.on≠i:=fun e he hb heq=>by
    have J:=U e he hb;have h0:=(mem_ready.1 hr).1;rw[heq]at J;rcases Nat.lt_or_ge i s.size with h' | h'
    ·simp[h']at h0 J;rw[h0]at J;cases J
    ·simp[Array.getElem?_eq_none h']at J
   have h2:=wpOp_putIf R (z j I R y G Y) (fun cs b=>C i O cs b hi) (fun cs b=>C j I cs b R) hQ Z J;have A:∀ k ok,ops[k]? = some ok->k≠i->(s.setIfInBounds j true).getD k true=false ->
    (∀ e∈ok.after,Region.binds md e=true->e.on≠i)->O.apart ops ok=true:=fun k ok hk hki hun hno=>by
    refine z k ok hk hki ?_ hno;by_cases V:j=k
    ·subst V;exact G
    ·rw[getD_set_ne true V]at hun;exact hun
   refine wpOp_mono (fun a' w' h3=>⟨h3.2.1,ih (s.setIfInBounds j true) a' w' A (shut_set X hj) (ready_mono hr (Ne.symm y)) h3.1 (h3.2.1 d2) ?_⟩) h2;rw[Array.setIfInBounds_comm _ _ y];exact h3.2.2
theorem wpAnyT_take{i d:Nat}{o:Oper}{v:Value}{fuel:Nat}{j:Array Bool}{a:Act}{w:World}(hi:ops[i]? = some o)(hd:o.dst=some d)
 (hs:(Region.noSelect ops && Region.free md ops j i && (Region.ready md ops j).contains i && qXz md ops tail i && qZM md ops j && !tail i)=true)
 (s:∀ c a w,Q (.panic c) (a.put o.dst v) w->Q (.panic c) a w) (z:Region.wanted o (yielded ops a.tmps)=true) (y:∀ w,S w->(execOp a.eval o).run P w=.ok (.value v) w) (hS:S w)
 (h:vR P md ops Q S tail fuel (j.setIfInBounds i true) (a.put (some d) v) w):vR P md ops Q S tail (fuel+1) j a w:=by
 simp only[bE,Bool.not_eq_true']at hs;exact qVp hi (Region.noSelect_spec hs.1.1.1.1.1) s hs.1.1.2 hs.2 fuel j a w (Region.free_spec hi hs.1.1.1.1.2) hs.1.2 (by simpa using hs.1.1.1.2) (.inl ⟨z,y⟩) hS (by rw[hd];exact h)
theorem wpAnyT_one{i:Nat}{o:Oper}{fuel:Nat}{s:Array Bool}{a:Act}{w:World}(hi:ops[i]? = some o)(hr:Region.ready md ops s=[i])(y:Region.wanted o (yielded ops a.tmps)=true)
 (h:∀ K:Act->World->Prop,Shut (∀ a' w',(tail i=false->S w')->vR P md ops Q S tail fuel (s.setIfInBounds i true) a' w'->K a' w')->o.wp P a w K Q):vR P md ops Q S tail (fuel+1) s a w:=by
 refine⟨fun h0=>(by rw[hr]at h0;cases h0),fun j hj=>?_⟩;rw[hr]at hj;obtain rfl:j=i:=by simpa using hj
 unfold wpOp;simp only[hi,y,if_true];exact .inl (h _ (fun a' w' h1 h2=>⟨h1,h2⟩))
theorem wpAnyT_done{j:Array Bool}{a:Act}{w:World}(hr:Region.ready md ops j=[])(h:Q .normal a w) :
 ∀ fuel,vR P md ops Q S tail fuel j a w
 | 0=>⟨hr,h⟩
 | _+1=>⟨fun _=>h,by rw[hr];simp⟩
end
section
variable {P:Program} {ops:Array Oper} {Q:Exit->Act->World->Prop} {md:Region.Mode} {S:World->Prop} {tail:Nat->Bool}
theorem wTk(i d:Nat)(v:Value){oi:Oper}{fuel:Nat}{listed:Array Bool}{a:Act}{w:World}(hy:∀ w,S w->(execOp a.eval oi).run P w=.ok (.value v) w)(hS:S w)
 {a':Act} (h:vR P md ops Q S tail fuel (listed.setIfInBounds i true) a' w) (ha:a.put (some d) v=a':=by first | (simp only[Act.put,pZa,pZb,pZc];done) | (simp only[Act.put,pZa,pZb,pZc];rfl) | rfl) (hi:ops[i]? = some oi:=by rfl) (hd:oi.dst=some d:=by rfl)
 (hs:(Region.noSelect ops && Region.free md ops listed i && (Region.ready md ops listed).contains i && qXz md ops tail i && qZM md ops listed && !tail i)=true:=by kernel_rfl)
 (hQ:∀ c a w,Q (.panic c) (a.put oi.dst v) w->Q (.panic c) a w:=by exact fun _ _ _ h=>h) (hw:Region.wanted oi (yielded ops a.tmps)=true:=by rfl):vR P md ops Q S tail (fuel+1) listed a w :=
 wpAnyT_take hi hd hs hQ hw hy hS (ha ▸ h)
theorem wOn(i:Nat){o:Oper}{fuel:Nat}{listed:Array Bool}{a:Act}{w:World}
 (h:∀ K:Act->World->Prop,Shut (∀ a' w',(tail i=false->S w')->vR P md ops Q S tail fuel (listed.setIfInBounds i true) a' w'->K a' w')->o.wp P a w K Q)
 (hi:ops[i]? = some o:=by rfl) (hr:Region.ready md ops listed=[i]:=by kernel_rfl) (hw:Region.wanted o (yielded ops a.tmps)=true:=by rfl):vR P md ops Q S tail (fuel+1) listed a w :=
 wpAnyT_one hi hr hw h
theorem kK{b:Bool}{fuel:Nat}{L:Array Bool}{K:Act->World->Prop}(hK:Shut (∀ a' w',(b=false->S w')->vR P md ops Q S tail fuel L a' w'->K a' w')){a a':Act}{w:World}(hS:S w)
 (h:vR P md ops Q S tail fuel L a' w) (ha:a=a':=by first | (simp only[Act.put,pZa,pZb,pZc];done) | (simp only[Act.put,pZa,pZb,pZc];rfl) | rfl):K a w:=by
 subst ha;exact hK.out _ _ (fun _=>hS) h
theorem kD{b:Bool}{fuel:Nat}{L:Array Bool}{K:Act->World->Prop}(hK:Shut (∀ a' w',(b=false->S w')->vR P md ops Q S tail fuel L a' w'->K a' w')){a a':Act}{w:World}
 (h:vR P md ops Q S tail fuel L a' w) (ha:a=a':=by first | (simp only[Act.put,pZa,pZb,pZc];done) | (simp only[Act.put,pZa,pZb,pZc];rfl) | rfl) (ht:b=true:=by decide):K a w:=by
 subst ha;exact hK.out _ _ (fun h=>absurd (ht.symm.trans h) (by decide)) h
theorem wDn{listed:Array Bool}{a:Act}{w:World}(h:Q .normal a w)(fuel:Nat)(hr:Region.ready md ops listed=[]:=by kernel_rfl):vR P md ops Q S tail fuel listed a w:=wpAnyT_done hr h fuel
theorem wRg(t:Nat){id:Nat}{a:Act}{w:World}(h:vR P .any ops Q S (fun i=>decide (t<=i)) ops.size (Array.replicate ops.size false) a w.drew)(hm:P.follows .mixedOrders=true:=by kernel_rfl):(Code.region id ops true).wp P Q a w :=
 wW hm h
end
def qQw:List (List UInt8):=[[98,111,111,108],[117,56],[117,49,54],[117,51,50],[117,54,52],[105,56],[105,49,54],[105,51,50],[105,54,52]]
def qKT(lo:Nat)(w:World):Prop:=6 < lo/\lo<=w.1.size/\(∃ b off cap,qZ0 6 19 qZ3 b off cap w/\b < lo)/\∃ b off cap,qZ0 5 9 qQw b off cap w/\b < lo
theorem qZ0.under{g n b o j lo:Nat}{L:List (List UInt8)}{w w':World}(h:qZ0 g n L b o j w)(hb:Below lo w w')(hg:g < lo)(s:b < lo):qZ0 g n L b o j w' :=
 ⟨(hb.cell hg).trans h.tg,fun i hi=>(hb.cell s).trans (h.tn i hi)⟩
theorem qKT.under{lo:Nat}{w w':World}(h:qKT lo w)(hb:Below lo w w'):qKT lo w':=by
 obtain⟨C,A,⟨b,y,s,h2,h3⟩,⟨b',o,j,h4,z⟩⟩:=h;exact⟨C,Nat.le_trans A hb.size,⟨b,y,s,h2.under hb (by omega) h3,h3⟩,⟨b',o,j,h4.under hb (by omega) z,z⟩⟩
theorem qKT.keys{lo:Nat}{w:World}(h:qKT lo w):Keys w:=by
 obtain⟨y,s,⟨b,o,j,h2,h3⟩,_⟩:=h;exact⟨b,o,j,h2⟩
def qWD(w:World):Prop:=∃ b off cap,qZ0 5 9 qQw b off cap w
theorem qKT.types{lo:Nat}{w:World}(h:qKT lo w):qWD w:=by
 obtain⟨y,s,_,⟨b,o,j,h2,h3⟩⟩:=h;exact⟨b,o,j,h2⟩
def qZY:List Tok->Prop
 | []=>False
 | [e]=>e.kind=3/\e.text=[]
 | t :: r=>t.text≠[]/\qZY r
theorem qZY.ne{l:List Tok}(h:qZY l):∃ t r,l=t :: r:=by
 cases l with
 | nil=>exact h.elim
 | cons t r=>exact⟨t,r,rfl⟩
theorem qZY.tail{t:Tok}{r:List Tok}(h:qZY (t :: r))(ht:t.text≠[]):qZY r:=by
 cases r with
 | nil=>exact absurd h.2 ht
 | cons u r=>exact h.2
theorem qKU.grown{g i:Nat}{t:Tok}{w w':World}{r:Option Nat}(h:qKU g i t w)(hg:w.grownBy w' r)(j:some g≠r):qKU g i t w' :=
 ⟨hg.cell h.fk j,hg.cell h.ft j,hg.cell h.fm j,hg.cell h.fl j,hg.cell h.fc j⟩
structure qWz(lo B T o c:Nat)(l:List Tok)(d:Int)(w:World):Prop where
 c0:w.cell? ⟨B,0,none⟩=some (.slice (some ⟨T,o * 5,none⟩) l.length c)
 c1:w.cell? ⟨B,1,none⟩=some (.int .i64 d)
 f0:w.frozen? ⟨B,0,none⟩=false
 f1:w.frozen? ⟨B,1,none⟩=false
 row:∀ k (h:k < l.length),qKU T (o+k) l[k] w
 ends:qZY l
 hT:T < B
 hc:l.length<=c
 hm:c<=maxLen
 hl:l.length<=70000
 ht:∀ t∈l,t.text.length<=65536
 hd:0<=d/\d<=60
 tab:qKT lo w
 hlo:lo<=B
theorem qWz.a{lo B T o c:Nat}{l:List Tok}{d:Int}{w:World}(h:qWz lo B T o c l d w):w.cell? ⟨B,0,none⟩=some (.slice (some ⟨T,o * 5,none⟩) l.length c)/\w.cell? ⟨B,1,none⟩=some (.int .i64 d)/\True:=⟨h.c0,h.c1,trivial⟩
def vP(B:Nat)(l:List Tok)(d:Int)(w:World):Prop:=∃ lo T o c,qWz lo B T o c l d w
theorem qWz.lt{lo B T o c:Nat}{l:List Tok}{d:Int}{w:World}(h:qWz lo B T o c l d w):B < w.1.size:=qJ h.c0
theorem vP.lt{B:Nat}{l:List Tok}{d:Int}{w:World}(h:vP B l d w):B < w.1.size:=by
 obtain⟨lo,T,o,c,h⟩:=h;exact h.lt
theorem qWz.grown{lo B T o c:Nat}{l:List Tok}{d:Int}{w w':World}{r:Option Nat}(h:qWz lo B T o c l d w)(hg:w.grownBy w' r)(hr:∀ k,r=some k->B < k):qWz lo B T o c l d w':=by
 have s:=h.lt;have hT:=h.hT;have hlo:=h.hlo;have j:∀ k,k<=B->some k≠r:=fun k hk e=>by have:=hr k e.symm;omega
 have hb:=hg.block B s (j B (Nat.le_refl _));refine⟨(cB hb).trans h.c0,(cB hb).trans h.c1,(World.frozen?_of_block hb).trans h.f0,(World.frozen?_of_block hb).trans h.f1,
  fun k hk=>(h.row k hk).grown hg (j T (by omega)),h.ends,hT,h.hc,h.hm,h.hl,h.ht,h.hd,h.tab.under ?_,hlo⟩
 exact(Below.refl _ _).grown hg (by omega) (fun k e=>by have:=hr k e;omega)
theorem vP.grown{B:Nat}{l:List Tok}{d:Int}{w w':World}{r:Option Nat}(h:vP B l d w)(hg:w.grownBy w' r)(hr:∀ k,r=some k->B < k):vP B l d w':=by
 obtain⟨lo,T,o,c,h⟩:=h;exact⟨lo,T,o,c,h.grown hg hr⟩
theorem zV{w w':World}(h:Below w.1.size w w')(r:Option Nat):w.grownBy w' r:=⟨h.os,h.tape,h.output,h.size,fun k hk _=>h.block k hk⟩
theorem qQb{w w':World}(h:w.grownBy w' none):Below w.1.size w w':=(Below.refl _ _).grown h (Nat.le_refl _) (fun _ e=>by cases e)
theorem vP.below{B:Nat}{l:List Tok}{d:Int}{w w':World}(h:vP B l d w)(hb:Below w.1.size w w'):vP B l d w':=h.grown (zV hb none) (fun _ e=>by cases e)
structure wH(b:Nat)(t:Tok)(w:World):Prop where
 c0:w.cell? ⟨b,0,none⟩=some (.int .i64 t.kind)
 c1:w.cell? ⟨b,1,none⟩=some (.string ⟨t.text.toArray⟩)
 c2:w.cell? ⟨b,2,none⟩=some (.int .u64 t.num)
 c3:w.cell? ⟨b,3,none⟩=some (.int .i64 t.line)
 c4:w.cell? ⟨b,4,none⟩=some (.int .i64 t.col)
 f:∀ k,k < 5->w.frozen? ⟨b,k,none⟩=false
theorem wH.a{b:Nat}{t:Tok}{w:World}(h:wH b t w):w.cell? ⟨b,0,none⟩=some (.int .i64 t.kind)/\w.cell? ⟨b,1,none⟩=some (.string ⟨t.text.toArray⟩)/\w.cell? ⟨b,2,none⟩=some (.int .u64 t.num)/\w.cell? ⟨b,3,none⟩=some (.int .i64 t.line)/\w.cell? ⟨b,4,none⟩=some (.int .i64 t.col)/\True:=⟨h.c0,h.c1,h.c2,h.c3,h.c4,trivial⟩
theorem wH.b{b:Nat}{t:Tok}{w:World}(h:wH b t w):w.frozen? ⟨b,0,none⟩=false/\w.frozen? ⟨b,1,none⟩=false/\w.frozen? ⟨b,2,none⟩=false/\w.frozen? ⟨b,3,none⟩=false/\w.frozen? ⟨b,4,none⟩=false/\True:=⟨h.f 0 (by decide),h.f 1 (by decide),h.f 2 (by decide),h.f 3 (by decide),h.f 4 (by decide),trivial⟩
theorem wH.lt{b:Nat}{t:Tok}{w:World}(h:wH b t w):b < w.1.size:=qJ h.c0
theorem wH.grown{b:Nat}{t:Tok}{w w':World}{r:Option Nat}(h:wH b t w)(hg:w.grownBy w' r)(j:some b≠r):wH b t w' :=
 ⟨hg.cell h.c0 j,hg.cell h.c1 j,hg.cell h.c2 j,hg.cell h.c3 j,hg.cell h.c4 j,fun k hk=>(World.frozen?_of_block (hg.block b h.lt j)).trans (h.f k hk)⟩
theorem wH.below{b:Nat}{t:Tok}{w w':World}(h:wH b t w)(hb:Below w.1.size w w'):wH b t w':=h.grown (zV hb none) (by simp)
theorem wH.new(t:Tok)(w:World):wH w.1.size t (w.alloc (.cells #[.int .i64 t.kind, .string ⟨t.text.toArray⟩, .int .u64 t.num, .int .i64 t.line, .int .i64 t.col] 49)):=by
 constructor
 case f=>intro k j;simp[go_sem]
 all_goals simp[go_sem]
structure zI(b:Nat)(k x:List UInt8)(n ln c:Int)(v:Value)(w:World):Prop where
 c0:w.cell? ⟨b,0,none⟩=some (.string ⟨k.toArray⟩)
 c1:w.cell? ⟨b,1,none⟩=some (.string ⟨x.toArray⟩)
 c2:w.cell? ⟨b,2,none⟩=some (.int .u64 n)
 c3:w.cell? ⟨b,3,none⟩=some (.int .i64 ln)
 c4:w.cell? ⟨b,4,none⟩=some (.int .i64 c)
 c5:w.cell? ⟨b,5,none⟩=some v
 f:∀ k,k < 6->w.frozen? ⟨b,k,none⟩=false
theorem zI.a{b:Nat}{k x:List UInt8}{n ln c:Int}{v:Value}{w:World}(h:zI b k x n ln c v w):w.cell? ⟨b,0,none⟩=some (.string ⟨k.toArray⟩)/\w.cell? ⟨b,1,none⟩=some (.string ⟨x.toArray⟩)/\w.cell? ⟨b,2,none⟩=some (.int .u64 n)/\w.cell? ⟨b,3,none⟩=some (.int .i64 ln)/\w.cell? ⟨b,4,none⟩=some (.int .i64 c)/\w.cell? ⟨b,5,none⟩=some v/\True:=⟨h.c0,h.c1,h.c2,h.c3,h.c4,h.c5,trivial⟩
theorem zI.b{b:Nat}{k x:List UInt8}{n ln c:Int}{v:Value}{w:World}(h:zI b k x n ln c v w):w.frozen? ⟨b,0,none⟩=false/\w.frozen? ⟨b,1,none⟩=false/\w.frozen? ⟨b,2,none⟩=false/\w.frozen? ⟨b,3,none⟩=false/\w.frozen? ⟨b,4,none⟩=false/\w.frozen? ⟨b,5,none⟩=false/\True:=⟨h.f 0 (by decide),h.f 1 (by decide),h.f 2 (by decide),h.f 3 (by decide),h.f 4 (by decide),h.f 5 (by decide),trivial⟩
theorem zI.lt{b:Nat}{k x:List UInt8}{n ln c:Int}{v:Value}{w:World}(h:zI b k x n ln c v w):b < w.1.size:=qJ h.c0
theorem zI.grown{b:Nat}{k x:List UInt8}{n ln c:Int}{v:Value}{w w':World}{r:Option Nat}(h:zI b k x n ln c v w)(hg:w.grownBy w' r)(j:some b≠r):zI b k x n ln c v w' :=
 ⟨hg.cell h.c0 j,hg.cell h.c1 j,hg.cell h.c2 j,hg.cell h.c3 j,hg.cell h.c4 j,hg.cell h.c5 j,fun k hk=>(World.frozen?_of_block (hg.block b h.lt j)).trans (h.f k hk)⟩
theorem zI.below{b:Nat}{k x:List UInt8}{n ln c:Int}{v:Value}{w w':World}(h:zI b k x n ln c v w)(hb:Below w.1.size w w'):zI b k x n ln c v w':=h.grown (zV hb none) (by simp)
theorem zI.new(k x:List UInt8)(n ln c:Int)(v:Value)(w:World) :
 zI w.1.size k x n ln c v (w.alloc (.cells #[.string ⟨k.toArray⟩, .string ⟨x.toArray⟩, .int .u64 n, .int .i64 ln, .int .i64 c,v] 57)):=by
 constructor
 case f=>intro k j;simp[go_sem]
 all_goals simp[go_sem]
theorem zI.set5{b:Nat}{k x:List UInt8}{n ln c:Int}{v:Value}{w:World}(h:zI b k x n ln c v w)(u:Value):zI b k x n ln c u (w.setCell ⟨b,5,none⟩ u):=by
 have⟨s,o,h2,h3,h4,y,_⟩:=h.a;have hf:=h.f;constructor
 case f=>intro k j;have:=hf k j;simp[go_sem, *]
 all_goals simp[go_sem, *]
def tok0:Tok:=⟨0,[],0,0,0⟩
theorem jM(w:World)(B o:Nat)(v:Value):w.grownBy (w.setCell ⟨B,o,none⟩ v) (some B):=vC (jS _ _) v
theorem qWz.step{lo B T o c:Nat}{t:Tok}{r:List Tok}{d:Int}{w:World}(h:qWz lo B T o c (t :: r) d w)(ht:t.text≠[]) :
 qWz lo B T (o+1) (c - 1) r d (w.setCell ⟨B,0,none⟩ (.slice (some ⟨T,o * 5+5,none⟩) r.length (c - 1))):=by
 have y:=h.c0;have s:=h.c1;have z:=h.f0;have g1:=h.f1;have hg:=jM w B 0 (.slice (some ⟨T,o * 5+5,none⟩) r.length (c - 1));have hT:=h.hT;have hlo:=h.hlo;have j:=h.hc;have hm:=h.hm;have hl:=h.hl;simp only[lO]at j hl;refine⟨by rw[Nat.succ_mul];simp[go_sem, *],by simp[go_sem, *],by simp[go_sem, *],by simp[go_sem, *],fun k hk=>?_,h.ends.tail ht,hT,by omega,by omega,by omega,fun u hu=>h.ht u (by simp[hu]),h.hd,h.tab.under ?_,hlo⟩
 ·have:=h.row (k+1) (by simpa using hk);have e:o+(k+1)=o+1+k:=by omega
  rw[e]at this;exact(this.grown hg (by simp;omega))
 ·exact(Below.refl _ _).grown hg (by have:=h.lt;omega) (fun k e=>by cases e;exact hlo)
theorem xR{w w2:World}{r:Option Nat}(h:w.grownBy w2 r){k:Nat}(s:w.1.size<=k)(o:Nat)(v:Value):w.grownBy (w2.setCell ⟨k,o,none⟩ v) r:=by
 have hb:=(Below.refl 0 w2).setCell (p:=⟨k,o,none⟩) (Nat.zero_le _) v;refine⟨hb.os.trans h.os,hb.tape.trans h.tape,hb.output.trans h.output,Nat.le_trans h.size hb.size,fun j hj hr=>?_⟩;rw[hS w2 _ v j (fun e=>by simp at e;omega)];exact h.block j hj hr
theorem vP.set{B:Nat}{l:List Tok}{d:Int}{w:World}(h:vP B l d w){k:Nat}(s:B < k)(o:Nat)(v:Value):vP B l d (w.setCell ⟨k,o,none⟩ v) :=
 h.grown (jM w k o v) (fun j e=>by cases e;exact s)
def qXo(ln c code:Int):Value:=.iface 110 (.agg #[.int .i64 ln, .int .i64 c, .int .i64 code])
theorem kY(B:Nat)(t:Tok)(r:List Tok)(d:Int)(w:World)(h:vP B (t :: r) d w) :
 Calls prog 90 #[.pointer (some ⟨B,0,none⟩)] w fun e w'=>e=.returned (vT t)/\Below w.1.size w w':=by
 obtain⟨lo,T,o,c,h⟩:=h;have c0:=h.c0;have ht:=h.row 0 (by simp);have a0:=ht.fk;have s:=ht.ft;have z:=ht.fm;have a3:=ht.fl;have a4:=ht.fc;have j:=h.hc;have hB:=h.lt;have y:T < w.1.size:=Nat.lt_trans h.hT hB;simp only[Nat.add_zero,List.getElem_cons_zero,lO]at a0 s z a3 a4 c0 j;clear h ht;unfold vT xA;go_enter func90,ntmps90
 go_wp2
 exact bodyPost_ret (by simp[results,results90,go_sem]) rfl ⟨rfl,(Below.refl _ _).alloc (Nat.le_refl _) _⟩
def Pan(B:Nat)(ln c code:Int)(w:World)(e:Ending)(w':World):Prop :=
 e=.panicked [{ v:=qXo ln c code,recovered:=false }]/\w.grownBy w' (some B)
theorem qPy(B:Nat)(t:Tok)(r:List Tok)(d code:Int)(w:World)(h:vP B (t :: r) d w) :
 Calls prog 126 #[.pointer (some ⟨B,0,none⟩), .int .i64 code] w (Pan B t.line t.col code w):=by
 have H:=hI (kY B t r d w h);clear h;unfold Pan;go_enter func126,ntmps126
 go_wp2_with fail
 refine(H.o).mono ?_;rintro e j ⟨rfl,hb⟩;unfold vT xA;go_wp2
 exact⟨rfl,rfl,zV (hb.alloc hb.size _) _⟩
theorem jI(t:Tok)(k x:ByteArray)(w:World) :
 Calls prog 89 #[vT t, .string k, .string x] w fun e w'=>e=.returned (.agg #[.string k, .string x, .int .u64 0, .int .i64 t.line, .int .i64 t.col, .slice none 0 0])/\Below w.1.size w w':=by
 unfold vT xA;go_enter func89,ntmps89
 go_wp2
 exact bodyPost_ret (by simp[results,results89,go_sem]) rfl ⟨rfl,((Below.refl _ _).alloc (Nat.le_refl _) _).alloc (by simp) _⟩
theorem yW(a b c d e:Value)(w:World):(Instr.field 49 (.agg #[a,b,c,d,e]) 0).run prog w=.ok a w:=by kernel_rfl
theorem vS(a b c d e:Value)(w:World):(Instr.field 49 (.agg #[a,b,c,d,e]) 1).run prog w=.ok b w:=by kernel_rfl
theorem wN(B:Nat)(t:Tok)(r:List Tok)(d:Int)(x:List UInt8)(w:World)(h:vP B (t :: r) d w) :
 Calls prog 102 #[.pointer (some ⟨B,0,none⟩), .string ⟨x.toArray⟩] w fun e w'=>e=.returned (.bool (t.text == x))/\Below w.1.size w w':=by
 have H:=hI (kY B t r d w h);clear h;have hf:=vS;go_enter func102,ntmps102
 go_wp2_with fail
 refine(H.o).mono ?_;rintro e j ⟨rfl,hb⟩;unfold vT xA;go_wp2
 go_ret;exact⟨rfl,hb⟩
theorem qQ8(B:Nat)(t:Tok)(r:List Tok)(d:Int)(w:World)(h:vP B (t :: r) d w) :
 Calls prog 123 #[.pointer (some ⟨B,0,none⟩), .bool false] w (Pan B t.line t.col 30 w):=by
 have j:=(Below.refl w.1.size w).alloc (Nat.le_refl _) (.cells #[.int .i64 0, .string ⟨#[]⟩, .int .u64 0, .int .i64 0, .int .i64 0] 49);have H:=hI (qPy B t r d 30 _ (h.below j));clear h;unfold Pan;go_enter func123,ntmps123
 go_wp2_with fail
 refine(H.o).mono ?_;rintro e s ⟨rfl,hb⟩;exact⟨rfl,rfl,qR (zV j _) hb⟩
theorem vB(B:Nat)(t:Tok)(r:List Tok)(d:Int)(w:World)(h:vP B (t :: r) d w)(ht:t.text≠[]) :
 Calls prog 123 #[.pointer (some ⟨B,0,none⟩), .bool true] w fun e w'=>e=.returned (vT t)/\vP B r d w'/\w.grownBy w' (some B):=by
 have C:=(Below.refl w.1.size w).alloc (Nat.le_refl _) (.cells #[.int .i64 0, .string ⟨#[]⟩, .int .u64 0, .int .i64 0, .int .i64 0] 49);have H:=hI (kY B t r d _ (h.below C));have V:=wH.new tok0 w;go_enter func123,ntmps123
 go_wp2_with fail
 refine(H.o).mono ?_;rintro e O ⟨rfl,hb⟩;have s:=h.below (C.trans (hb.mono C.size));have d4:w.1.size < O.1.size:=by have:=hb.size;simp at this;omega
 have HA:=hI (C.trans (hb.mono C.size));have y:=h.lt;have Y:=V.below hb;clear hb C h H V;obtain⟨lo,T,o,c,s⟩:=s;have c0:=s.c0;have f0:=s.f0;have I:=s.hc;have hB:=s.lt;have hm:=s.hm;simp only[lO]at c0 I;have HC:=hI (qY1 ⟨t.text.toArray⟩);have R:(⟨t.text.toArray⟩:ByteArray).size<=65536:=s.ht t (by simp);have d3:¬c=1:=by
  obtain⟨t',r',rfl⟩:=(s.ends.tail ht).ne;simp at I;omega
 have Z:=hI (s.step ht);have HN:=hI (wH.new t (O.setCell ⟨B,0,none⟩ (.slice (some ⟨T,o * 5+5,none⟩) r.length (c - 1))));have X:=hI Y;clear s Y;unfold vT xA;go_wp2_with fail
 refine(HC.o _ R).mono ?_;rintro e w2 ⟨rfl,z⟩;have hg1:=zY (jM O B 0 (.slice (some ⟨T,o * 5+5,none⟩) r.length (c - 1))) (.cells #[.int .i64 t.kind, .string ⟨t.text.toArray⟩, .int .u64 t.num, .int .i64 t.line, .int .i64 t.col] 49);have j:=HN.o.below z;simp only[World.size_setCell]at j;have A:=(X.o.grown hg1 (by simp;omega)).below z;have G:=vP.below (vP.grown ⟨_,_,_,_,Z.o⟩ (World.grownBy_alloc _ _ none) (fun _ e=>by cases e)) z;have HG:=hI (qR (zV HA.o (some B)) (qR hg1 (zV z (some B))));have d2:O.1.size < w2.1.size:=j.lt;have U:=hI G;clear G z hg1 Z HN X HC;have⟨q0,q1,q2,q3,q4,_⟩:=j.a;have qf:=j.f 1 nL;have⟨r0,r1,r2,r3,r4,_⟩:=A.a;have⟨g0,g1,g2,g3,g4,_⟩:=A.b;clear j A;go_wp2
 refine bodyPost_ret (v:=vT t) (by simp[results,results123,go_sem,vT,xA,r0,r1,r2,r3,r4]) rfl ⟨rfl,?_,?_⟩
 ·exact(((((U.o.set (by omega) _ _).set y _ _).set y _ _).set y _ _).set y _ _).set y _ _
 ·have J:=Nat.le_refl w.1.size;exact xR (xR (xR (xR (xR (xR HG.o (by omega) _ _) J _ _) J _ _) J _ _) J _ _) J _ _
end Go.Proofs.YtiajhekdhhhghaaGreatDoor
