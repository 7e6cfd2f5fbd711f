/- Walks. -/
import Derived.Shelf.Strconv.Itoa0
import Derived.Shelf.Strconv.Itoa1
import Derived.Lib.Walk
import Derived.Lib.ItoaMem
import Derived.BigCall
import Derived.BigGuard
import Derived.Deep.LoopGhost
import Derived.Test.YtiajhekdhhhghaaGreatDoorMab
set_option linter.all false
set_option maxHeartbeats 8000000
set_option maxRecDepth 100000
namespace Go.Proofs.YtiajhekdhhhghaaGreatDoor
open Tryz
open Go Go.RowKit
def qPv(c:Int):Bool:=decide (48<=c/\c<=57)
def qQ0:Nat->List UInt8->Bool
 | _,[]=>true
 | i,b :: r=>(qZx b.toNat || (qPv b.toNat && !(i == 0))) && qQ0 (i+1) r
def jH(l:List UInt8):Bool:=qQ0 0 l && (!(l == []) && !qWm l)
theorem scan_hit{l:List UInt8}{k:Nat}{b:UInt8}(h:l[k]? = some b)(hb:(qZx b.toNat || (qPv b.toNat && !(k == 0)))=true):qQ0 k (l.drop k)=qQ0 (k+1) (l.drop (k+1)):=by
 obtain⟨hk,rfl⟩:=List.getElem?_eq_some_iff.1 h;rw[List.drop_eq_getElem_cons hk,qQ0,hb,bT]
theorem scan_miss{l:List UInt8}{k:Nat}{b:UInt8}(h:l[k]? = some b)(hb:(qZx b.toNat || (qPv b.toNat && !(k == 0)))=false):qQ0 k (l.drop k)=false:=by
 obtain⟨hk,rfl⟩:=List.getElem?_eq_some_iff.1 h;rw[List.drop_eq_getElem_cons hk,qQ0,hb,bA]
theorem byte_cls(b:Int)(h0:0<=b)(h1:b<=255):(0<=b/\b<=47)\/(48<=b/\b<=57)\/(58<=b/\b<=64)\/(65<=b/\b<=90)\/(91<=b/\b<=94)\/(95<=b/\b<=95)\/(96<=b/\b<=96)\/(97<=b/\b<=122)\/(123<=b/\b<=255):=by omega
theorem byte_at(s:ByteArray)(k:Nat)(h:k < s.size):s.data.toList[k]? = some s[k]:=by
 rw[List.getElem?_eq_getElem (by rw[<-qQQ];exact h)];cases s;rfl
theorem isName_any(s:ByteArray)(w:World)(hk:Keys w)(hs:s.size<=1000000) :
 Calls prog 128 #[.string s] w fun e w'=>e=.returned (.bool (jH s.data.toList))/\w=w':=by
 have HK:=hI (key_any s w hk);have HL:=hI (qQQ s);have HS:=hI (qU6 [] s);clear hk;go_enter func128,ntmps128
 go_wp2_with fail
 go_loop [9] (fun i=>∃ k:Nat,k<=s.size/\i=.int .i64 k/\qQ0 k (s.data.toList.drop k)=qQ0 0 s.data.toList) (fun i=>s.size - (intOf i).toNat)
 case atStart=>exact⟨0,Nat.zero_le _,rfl,rfl⟩
 case round =>
  obtain⟨k,hkn,rfl,hr⟩:=hrel;have HR:=hI hr;clear hr;by_cases hlt:k < s.size
  ·have hh:=hI (scan_hit (byte_at s k hlt));have hm:=hI (scan_miss (byte_at s k hlt));have hb0:(0:Int)<=(s[k].toNat:Int):=by omega
   have hb1:(s[k].toNat:Int)<=255:=by have:=s[k].toNat_lt;omega
   have hc:=byte_cls _ hb0 hb1;have hlet:qZx (s[k].toNat:Int)=(decide (97<=(s[k].toNat:Int)) && decide ((s[k].toNat:Int)<=122) || (decide (65<=(s[k].toNat:Int)) && decide ((s[k].toNat:Int)<=90)) || ((s[k].toNat:Int) == 95)):=by
    unfold qZx;rw[Bool.eq_iff_iff];simp;omega
   have hdig:qPv (s[k].toNat:Int)=(decide (48<=(s[k].toNat:Int)) && decide ((s[k].toNat:Int)<=57)):=by
    unfold qPv;rw[Bool.eq_iff_iff];simp
   rw[hlet,hdig]at hh hm;clear hlet hdig;generalize hB:(s[k].toNat:Int)=b at *;by_cases hk0:k=0
   ·have hkb:((k:Int) == 0)=true:=by simp[hk0]
    have hkn':(k == 0)=true:=by simp[hk0]
    rcases hc with hc | hc | hc | hc | hc | hc | hc | hc | hc
    ·have c1:decide (97<=b)=false:=by simp;omega
     have c2:decide (b<=122)=true:=by simp;omega
     have c3:decide (65<=b)=false:=by simp;omega
     have c4:decide (b<=90)=true:=by simp;omega
     have c5:(b == 95)=false:=by simp;omega
     have c6:decide (48<=b)=false:=by simp;omega
     have c7:decide (b<=57)=true:=by simp;omega
     have hst:=hI (hm.o (by rw[c1,c2,c3,c4,c5,c6,c7,hkn'];rfl));clear hh hm hc hk0 hb0 hb1;go_wp2_with fail
     go_ret;refine⟨?_,rfl⟩;unfold jH;rw[<-HR.o,hst.o];rfl
    ·have c1:decide (97<=b)=false:=by simp;omega
     have c2:decide (b<=122)=true:=by simp;omega
     have c3:decide (65<=b)=false:=by simp;omega
     have c4:decide (b<=90)=true:=by simp;omega
     have c5:(b == 95)=false:=by simp;omega
     have c6:decide (48<=b)=true:=by simp;omega
     have c7:decide (b<=57)=true:=by simp;omega
     have hst:=hI (hm.o (by rw[c1,c2,c3,c4,c5,c6,c7,hkn'];rfl));clear hh hm hc hk0 hb0 hb1;go_wp2_with fail
     go_ret;refine⟨?_,rfl⟩;unfold jH;rw[<-HR.o,hst.o];rfl
    ·have c1:decide (97<=b)=false:=by simp;omega
     have c2:decide (b<=122)=true:=by simp;omega
     have c3:decide (65<=b)=false:=by simp;omega
     have c4:decide (b<=90)=true:=by simp;omega
     have c5:(b == 95)=false:=by simp;omega
     have c6:decide (48<=b)=true:=by simp;omega
     have c7:decide (b<=57)=false:=by simp;omega
     have hst:=hI (hm.o (by rw[c1,c2,c3,c4,c5,c6,c7,hkn'];rfl));clear hh hm hc hk0 hb0 hb1;go_wp2_with fail
     go_ret;refine⟨?_,rfl⟩;unfold jH;rw[<-HR.o,hst.o];rfl
    ·have c1:decide (97<=b)=false:=by simp;omega
     have c2:decide (b<=122)=true:=by simp;omega
     have c3:decide (65<=b)=true:=by simp;omega
     have c4:decide (b<=90)=true:=by simp;omega
     have c5:(b == 95)=false:=by simp;omega
     have c6:decide (48<=b)=true:=by simp;omega
     have c7:decide (b<=57)=false:=by simp;omega
     have hst:=hI (hh.o (by rw[c1,c2,c3,c4,c5,c6,c7,hkn'];rfl));clear hh hm hc hk0 hb0 hb1;go_wp2_with fail
     go_round
     case rel=>exact⟨k+1,by omega,by go_num,by rw[<-hst.o];exact HR.o⟩
     case measure=>simp[intOf];omega
    ·have c1:decide (97<=b)=false:=by simp;omega
     have c2:decide (b<=122)=true:=by simp;omega
     have c3:decide (65<=b)=true:=by simp;omega
     have c4:decide (b<=90)=false:=by simp;omega
     have c5:(b == 95)=false:=by simp;omega
     have c6:decide (48<=b)=true:=by simp;omega
     have c7:decide (b<=57)=false:=by simp;omega
     have hst:=hI (hm.o (by rw[c1,c2,c3,c4,c5,c6,c7,hkn'];rfl));clear hh hm hc hk0 hb0 hb1;go_wp2_with fail
     go_ret;refine⟨?_,rfl⟩;unfold jH;rw[<-HR.o,hst.o];rfl
    ·have c1:decide (97<=b)=false:=by simp;omega
     have c2:decide (b<=122)=true:=by simp;omega
     have c3:decide (65<=b)=true:=by simp;omega
     have c4:decide (b<=90)=false:=by simp;omega
     have c5:(b == 95)=true:=by simp;omega
     have c6:decide (48<=b)=true:=by simp;omega
     have c7:decide (b<=57)=false:=by simp;omega
     have hst:=hI (hh.o (by rw[c1,c2,c3,c4,c5,c6,c7,hkn'];rfl));clear hh hm hc hk0 hb0 hb1;go_wp2_with fail
     go_round
     case rel=>exact⟨k+1,by omega,by go_num,by rw[<-hst.o];exact HR.o⟩
     case measure=>simp[intOf];omega
    ·have c1:decide (97<=b)=false:=by simp;omega
     have c2:decide (b<=122)=true:=by simp;omega
     have c3:decide (65<=b)=true:=by simp;omega
     have c4:decide (b<=90)=false:=by simp;omega
     have c5:(b == 95)=false:=by simp;omega
     have c6:decide (48<=b)=true:=by simp;omega
     have c7:decide (b<=57)=false:=by simp;omega
     have hst:=hI (hm.o (by rw[c1,c2,c3,c4,c5,c6,c7,hkn'];rfl));clear hh hm hc hk0 hb0 hb1;go_wp2_with fail
     go_ret;refine⟨?_,rfl⟩;unfold jH;rw[<-HR.o,hst.o];rfl
    ·have c1:decide (97<=b)=true:=by simp;omega
     have c2:decide (b<=122)=true:=by simp;omega
     have c3:decide (65<=b)=true:=by simp;omega
     have c4:decide (b<=90)=false:=by simp;omega
     have c5:(b == 95)=false:=by simp;omega
     have c6:decide (48<=b)=true:=by simp;omega
     have c7:decide (b<=57)=false:=by simp;omega
     have hst:=hI (hh.o (by rw[c1,c2,c3,c4,c5,c6,c7,hkn'];rfl));clear hh hm hc hk0 hb0 hb1;go_wp2_with fail
     go_round
     case rel=>exact⟨k+1,by omega,by go_num,by rw[<-hst.o];exact HR.o⟩
     case measure=>simp[intOf];omega
    ·have c1:decide (97<=b)=true:=by simp;omega
     have c2:decide (b<=122)=false:=by simp;omega
     have c3:decide (65<=b)=true:=by simp;omega
     have c4:decide (b<=90)=false:=by simp;omega
     have c5:(b == 95)=false:=by simp;omega
     have c6:decide (48<=b)=true:=by simp;omega
     have c7:decide (b<=57)=false:=by simp;omega
     have hst:=hI (hm.o (by rw[c1,c2,c3,c4,c5,c6,c7,hkn'];rfl));clear hh hm hc hk0 hb0 hb1;go_wp2_with fail
     go_ret;refine⟨?_,rfl⟩;unfold jH;rw[<-HR.o,hst.o];rfl
   ·have hkb:((k:Int) == 0)=false:=by simp;omega
    have hkn':(k == 0)=false:=by simpa using hk0
    rcases hc with hc | hc | hc | hc | hc | hc | hc | hc | hc
    ·have c1:decide (97<=b)=false:=by simp;omega
     have c2:decide (b<=122)=true:=by simp;omega
     have c3:decide (65<=b)=false:=by simp;omega
     have c4:decide (b<=90)=true:=by simp;omega
     have c5:(b == 95)=false:=by simp;omega
     have c6:decide (48<=b)=false:=by simp;omega
     have c7:decide (b<=57)=true:=by simp;omega
     have hst:=hI (hm.o (by rw[c1,c2,c3,c4,c5,c6,c7,hkn'];rfl));clear hh hm hc hk0 hb0 hb1;go_wp2_with fail
     go_ret;refine⟨?_,rfl⟩;unfold jH;rw[<-HR.o,hst.o];rfl
    ·have c1:decide (97<=b)=false:=by simp;omega
     have c2:decide (b<=122)=true:=by simp;omega
     have c3:decide (65<=b)=false:=by simp;omega
     have c4:decide (b<=90)=true:=by simp;omega
     have c5:(b == 95)=false:=by simp;omega
     have c6:decide (48<=b)=true:=by simp;omega
     have c7:decide (b<=57)=true:=by simp;omega
     have hst:=hI (hh.o (by rw[c1,c2,c3,c4,c5,c6,c7,hkn'];rfl));clear hh hm hc hk0 hb0 hb1;go_wp2_with fail
     go_round
     case rel=>exact⟨k+1,by omega,by go_num,by rw[<-hst.o];exact HR.o⟩
     case measure=>simp[intOf];omega
    ·have c1:decide (97<=b)=false:=by simp;omega
     have c2:decide (b<=122)=true:=by simp;omega
     have c3:decide (65<=b)=false:=by simp;omega
     have c4:decide (b<=90)=true:=by simp;omega
     have c5:(b == 95)=false:=by simp;omega
     have c6:decide (48<=b)=true:=by simp;omega
     have c7:decide (b<=57)=false:=by simp;omega
     have hst:=hI (hm.o (by rw[c1,c2,c3,c4,c5,c6,c7,hkn'];rfl));clear hh hm hc hk0 hb0 hb1;go_wp2_with fail
     go_ret;refine⟨?_,rfl⟩;unfold jH;rw[<-HR.o,hst.o];rfl
    ·have c1:decide (97<=b)=false:=by simp;omega
     have c2:decide (b<=122)=true:=by simp;omega
     have c3:decide (65<=b)=true:=by simp;omega
     have c4:decide (b<=90)=true:=by simp;omega
     have c5:(b == 95)=false:=by simp;omega
     have c6:decide (48<=b)=true:=by simp;omega
     have c7:decide (b<=57)=false:=by simp;omega
     have hst:=hI (hh.o (by rw[c1,c2,c3,c4,c5,c6,c7,hkn'];rfl));clear hh hm hc hk0 hb0 hb1;go_wp2_with fail
     go_round
     case rel=>exact⟨k+1,by omega,by go_num,by rw[<-hst.o];exact HR.o⟩
     case measure=>simp[intOf];omega
    ·have c1:decide (97<=b)=false:=by simp;omega
     have c2:decide (b<=122)=true:=by simp;omega
     have c3:decide (65<=b)=true:=by simp;omega
     have c4:decide (b<=90)=false:=by simp;omega
     have c5:(b == 95)=false:=by simp;omega
     have c6:decide (48<=b)=true:=by simp;omega
     have c7:decide (b<=57)=false:=by simp;omega
     have hst:=hI (hm.o (by rw[c1,c2,c3,c4,c5,c6,c7,hkn'];rfl));clear hh hm hc hk0 hb0 hb1;go_wp2_with fail
     go_ret;refine⟨?_,rfl⟩;unfold jH;rw[<-HR.o,hst.o];rfl
    ·have c1:decide (97<=b)=false:=by simp;omega
     have c2:decide (b<=122)=true:=by simp;omega
     have c3:decide (65<=b)=true:=by simp;omega
     have c4:decide (b<=90)=false:=by simp;omega
     have c5:(b == 95)=true:=by simp;omega
     have c6:decide (48<=b)=true:=by simp;omega
     have c7:decide (b<=57)=false:=by simp;omega
     have hst:=hI (hh.o (by rw[c1,c2,c3,c4,c5,c6,c7,hkn'];rfl));clear hh hm hc hk0 hb0 hb1;go_wp2_with fail
     go_round
     case rel=>exact⟨k+1,by omega,by go_num,by rw[<-hst.o];exact HR.o⟩
     case measure=>simp[intOf];omega
    ·have c1:decide (97<=b)=false:=by simp;omega
     have c2:decide (b<=122)=true:=by simp;omega
     have c3:decide (65<=b)=true:=by simp;omega
     have c4:decide (b<=90)=false:=by simp;omega
     have c5:(b == 95)=false:=by simp;omega
     have c6:decide (48<=b)=true:=by simp;omega
     have c7:decide (b<=57)=false:=by simp;omega
     have hst:=hI (hm.o (by rw[c1,c2,c3,c4,c5,c6,c7,hkn'];rfl));clear hh hm hc hk0 hb0 hb1;go_wp2_with fail
     go_ret;refine⟨?_,rfl⟩;unfold jH;rw[<-HR.o,hst.o];rfl
    ·have c1:decide (97<=b)=true:=by simp;omega
     have c2:decide (b<=122)=true:=by simp;omega
     have c3:decide (65<=b)=true:=by simp;omega
     have c4:decide (b<=90)=false:=by simp;omega
     have c5:(b == 95)=false:=by simp;omega
     have c6:decide (48<=b)=true:=by simp;omega
     have c7:decide (b<=57)=false:=by simp;omega
     have hst:=hI (hh.o (by rw[c1,c2,c3,c4,c5,c6,c7,hkn'];rfl));clear hh hm hc hk0 hb0 hb1;go_wp2_with fail
     go_round
     case rel=>exact⟨k+1,by omega,by go_num,by rw[<-hst.o];exact HR.o⟩
     case measure=>simp[intOf];omega
    ·have c1:decide (97<=b)=true:=by simp;omega
     have c2:decide (b<=122)=false:=by simp;omega
     have c3:decide (65<=b)=true:=by simp;omega
     have c4:decide (b<=90)=false:=by simp;omega
     have c5:(b == 95)=false:=by simp;omega
     have c6:decide (48<=b)=true:=by simp;omega
     have c7:decide (b<=57)=false:=by simp;omega
     have hst:=hI (hm.o (by rw[c1,c2,c3,c4,c5,c6,c7,hkn'];rfl));clear hh hm hc hk0 hb0 hb1;go_wp2_with fail
     go_ret;refine⟨?_,rfl⟩;unfold jH;rw[<-HR.o,hst.o];rfl
  ·have hend:qQ0 0 s.data.toList=true:=by
    rw[<-HR.o,List.drop_eq_nil_of_le (by rw[<-HL.o];omega),qQ0]
   have HE:=hI hend;clear hend;have HTS:=hI (Lib.toList_data s);by_cases hse:s.data=#[]
   ·have hie:s.toList.isEmpty=true:=by rw[HTS.o,hse];rfl
    have hne:jH s.data.toList=false:=by unfold jH;rw[hse];rfl
    have HN:=hI hne;clear hse hne;go_wp2_with fail
    go_ret;refine⟨?_,rfl⟩;rw[HN.o];rfl
   ·have hie:s.toList.isEmpty=false:=by
     rw[HTS.o];cases h:s.data.toList with
     | nil=>exact absurd (by simpa using h) hse
     | cons a r=>rfl
    have hne:jH s.data.toList=!qWm s.data.toList:=by
     unfold jH;rw[HE.o];have:(s.data.toList == [])=false:=by simpa using hse
     rw[this];rfl
    have HN:=hI hne;clear hse hne;go_wp2_with fail
    refine(HK.o).mono ?_;rintro e w' ⟨rfl,rfl⟩;go_wp2
    go_ret;refine⟨?_,rfl⟩;rw[HN.o];rfl
end Go.Proofs.YtiajhekdhhhghaaGreatDoor
namespace Go.Proofs
open Go.Shelf
def Tryz.lays283_ren:Go.Shelf.Ren:=⟨fun | 283=>166 | n=>n,fun | 3=>3 | 9=>9 | 4=>4 | n=>n,fun | n=>n⟩
theorem Tryz.lays283:Go.Proofs.Lays.n283 Tryz.prog Tryz.lays283_ren:={
 mixed:=by kernel_rfl
 f283:=Tryz.func166.trans (congrArg some (by kernel_rfl))
 t3:=Tryz.underlying3
 a3:=Tryz.isAgg3
 z3:=Tryz.sizeOf3
 v3:=Tryz.zeroValue3
 t4:=Tryz.underlying4
 a4:=Tryz.isAgg4
 z4:=Tryz.sizeOf4
 v4:=Tryz.zeroValue4
 t9:=Tryz.underlying9
 a9:=Tryz.isAgg9
 z9:=Tryz.sizeOf9
 v9:=Tryz.zeroValue9 }
open Go.Lib in
theorem Tryz.internal_strconv_small(i:Nat)(h:i < 100)(w:World) :
 Calls Tryz.prog 166 #[.int .i64 i] w fun e w'=>e=.returned (.string ⟨(Lib.decDigits i).toArray⟩)/\w'=w:=Any.internal_strconv_small Tryz.lays283 i h w
def Tryz.laysM284_ren:Go.Shelf.Ren:=⟨fun | 284=>167 | 129=>176 | 317=>175 | 318=>177 | n=>n,fun | 53=>47 | 3=>3 | 212=>194 | 0=>0 | 4=>4 | 46=>101 | 5=>5 | 9=>9 | n=>n,fun | 17=>7 | n=>n⟩
theorem Tryz.laysM284:Go.Proofs.LaysM.n284 Tryz.prog Tryz.laysM284_ren:={
 mixed:=by kernel_rfl
 f129:=Tryz.func176.trans (congrArg some (by kernel_rfl))
 f284:=Tryz.func167.trans (congrArg some (by kernel_rfl))
 f317:=Tryz.func175.trans (congrArg some (by kernel_rfl))
 f318:=Tryz.func177.trans (congrArg some (by kernel_rfl))
 t0:=Tryz.underlying0
 a0:=Tryz.isAgg0
 z0:=Tryz.sizeOf0
 v0:=Tryz.zeroValue0
 t3:=Tryz.underlying3
 a3:=Tryz.isAgg3
 z3:=Tryz.sizeOf3
 v3:=Tryz.zeroValue3
 t4:=Tryz.underlying4
 a4:=Tryz.isAgg4
 z4:=Tryz.sizeOf4
 v4:=Tryz.zeroValue4
 t5:=Tryz.underlying5
 a5:=Tryz.isAgg5
 z5:=Tryz.sizeOf5
 v5:=Tryz.zeroValue5
 t9:=Tryz.underlying9
 a9:=Tryz.isAgg9
 z9:=Tryz.sizeOf9
 v9:=Tryz.zeroValue9
 t46:=Tryz.underlying101
 a46:=Tryz.isAgg101
 z46:=Tryz.sizeOf101
 v46:=Tryz.zeroValue101
 t53:=Tryz.underlying47
 a53:=Tryz.isAgg47
 z53:=Tryz.sizeOf47
 v53:=Tryz.zeroValue47
 t212:=Tryz.underlying194
 a212:=Tryz.isAgg194
 z212:=Tryz.sizeOf194
 v212:=Tryz.zeroValue194
 g17:=by kernel_rfl
 i0:=by kernel_rfl
 i3:=by kernel_rfl
 i4:=by kernel_rfl
 i5:=by kernel_rfl
 i9:=by kernel_rfl
 i46:=by kernel_rfl
 i53:=by kernel_rfl
 i212:=by kernel_rfl
 m17:=by kernel_rfl }
open Go.Lib in
theorem Tryz.internal_strconv_numDigits(u:Nat)(h1:1<=u)(h2:u < 18446744073709551616)(w:World)(htab:Lib.TabIs Tryz.prog w "internal/strconv.uint64pow10" .u64 Lib.pow10Tab) :
 Calls Tryz.prog 167 #[.int .u64 u] w fun e w'=>e=.returned (.int .i64 (Lib.nDigits u))/\w'=w:=Any.internal_strconv_numDigits Tryz.laysM284 u h1 h2 w htab
end Go.Proofs
namespace Go.Proofs.YtiajhekdhhhghaaGreatDoor
open Tryz
open Go Go.RowKit Go.Sort Go.Lib
def Pow(w:World):Prop:=Lib.TabIs prog w "internal/strconv.uint64pow10" .u64 Lib.pow10Tab
theorem qP0:prog.globalNamed "internal/strconv.uint64pow10"=some 7:=by kernel_rfl
theorem Pow.under{L:Nat}{w w':World}(h:Pow w)(hb:Below L w w')(hL:7 < L):Pow w':=by
 unfold Pow Lib.TabIs World.var? at h ⊢;rw[qP0]at h ⊢;simp only[Option.bind_some]at h ⊢;rw[hb.block 7 hL];exact h
theorem Pow.lt{w:World}(h:Pow w):7 < w.1.size:=by
 unfold Pow Lib.TabIs World.var? at h;rw[qP0]at h;simp only[Option.bind_some]at h;rcases Nat.lt_or_ge 7 w.1.size with h' | h'
 ·exact h'
 ·rw[Array.getElem?_eq_none h']at h;cases h
theorem qLR(w:World)(k:Nat)(os:Array Obj):Below w.1.size w (Go.Sort.grow (w.drewN k) os):=by
 have hd:(w.drewN k).1=w.1:=by simp[World.drewN]
 refine⟨by simp[Go.Sort.grow,World.drewN],by simp[Go.Sort.grow,World.drewN],by simp[Go.Sort.grow,World.drewN],by simp[Go.Sort.grow,hd],fun b hb=>?_⟩;simp only[Go.Sort.grow,hd];exact Array.getElem?_append_left hb
theorem qPJ(w:World)(T:TypeId)(nd:Nat)(hs:nd<=24):Holds (fun(b:UInt8)=>Value.int .u8 (b.toNat:Int)) (w.alloc (.cells Lib.zeros24 T)) w.1.size 0 (Array.replicate nd (0:UInt8)):=fun j hj=>by
 have hj':j < nd:=by simpa using hj
 refine⟨?_,World.frozen?_alloc_new _ _ _ _⟩;rw[World.cell?_alloc_new,Lib.zeros24_at _ (by omega),getElem!_pos _ j hj];simp
theorem fin0(w:World)(o:Obj)(dk:Array UInt8)(k:Nat):∃ os,(putRow (fun(b:UInt8)=>Value.int .u8 (b.toNat:Int)) (w.alloc o) w.1.size 0 dk).drewN k=Go.Sort.grow (w.drewN k) os:=by
 rw[alloc_eq_grow];obtain⟨os',_,e⟩:=putRow_grow_new (fun(b:UInt8)=>Value.int .u8 (b.toNat:Int)) w #[o] w.1.size 0 dk (Nat.le_refl _);exact⟨os',by rw[e];rfl⟩
theorem fmt_inner(u:Nat)(hu64:u < 18446744073709551616)(w:World)(htab:Pow w) :
 Calls prog 152 #[.int .u64 u, .int .i64 10] w fun e w'=>e=.returned (.string ⟨(Lib.decDigits u).toArray⟩)/\Below w.1.size w w':=by
 by_cases hs:u < 100
 ·have H:=hI (Tryz.internal_strconv_small u hs w);go_enter func152,ntmps152
  go_wp2_with fail
  refine(H.o).mono ?_;rintro e w' ⟨rfl,rfl⟩;go_wp2
  go_ret;exact⟨rfl,Below.refl _ _⟩
 ·have hu1:1<=u:=by omega
  have hnd20:Lib.nDigits u<=20:=by have:=Lib.numDigits_eq u hu1 hu64;split at this <;> omega
  have hb3:Lib.nDigits u<=24:=by omega
  have hal:prog.arrayLen 183=24:=by kernel_rfl
  have hsl:∀ W,(Instr.sliceAt 183 (.pointer (some ⟨w.1.size,0,none⟩)) none (some (.int .i64 (Lib.nDigits u:Int))) none).run prog W=.ok (.slice (some ⟨w.1.size,0,none⟩) (Lib.nDigits u) 24) W:=fun W=>by
   rw[run_sliceAt_array_h W 183 ⟨w.1.size,0,none⟩ (by kernel_rfl) .i64 (Lib.nDigits u:Int) (by omega) (by rw[hal];omega)];go_simp
  have hH0:=qPJ w 183 (Lib.nDigits u) hb3;have hfmt:=Tryz.internal_strconv_formatBase10 w.1.size 0 24 u (Array.replicate (Lib.nDigits u) 0) (w.alloc (.cells Lib.zeros24 183)) hH0 (by rw[Array.size_replicate];exact Lib.lt_pow_nDigits u) hu64 (by rw[Array.size_replicate];omega);rw[Array.size_replicate]at hfmt;have HH0:=hI hH0;have HND:=hI (Tryz.internal_strconv_numDigits u hu1 hu64 _ (Lib.tabIs_alloc htab (.cells Lib.zeros24 183)));have HF:=hI hfmt;clear hH0 hal hfmt htab;unfold Lib.zeros24 at *;go_enter func152,ntmps152
  go_wp2_with fail
  refine(HND.o).mono ?_;rintro e w' ⟨rfl,rfl⟩;go_wp2_with fail
  refine(HF.o).mono ?_;rintro e w' ⟨rfl,k,v',dk,rfl,hF⟩;have hcv:(convert 62 9 (.slice (some ⟨w.1.size,0,none⟩) (Lib.nDigits u) 24)).run prog ((putRow (fun(b:UInt8)=>Value.int .u8 (b.toNat:Int)) (w.alloc (.cells Lib.zeros24 183)) w.1.size 0 dk).drewN k)=.ok (.string ⟨(Lib.decDigits u).toArray⟩) ((putRow (fun(b:UInt8)=>Value.int .u8 (b.toNat:Int)) (w.alloc (.cells Lib.zeros24 183)) w.1.size 0 dk).drewN k):=by
   have h:=run_convert_bytes_back (P:=prog) ((putRow (fun(b:UInt8)=>Value.int .u8 (b.toNat:Int)) (w.alloc (.cells Lib.zeros24 183)) w.1.size 0 dk).drewN k) 62 9 5 ⟨w.1.size,0,none⟩ 24 (Lib.decDigits u) underlying62 underlying5 underlying9 (fun j hj=>by
    rw[Lib.row_is_numeral hF j hj,Lib.add_plain,World.cell?_drewN];exact cell?_putRow (fun(b:UInt8)=>Value.int .u8 (b.toNat:Int)) _ w.1.size 0 _ dk HH0.o (by rw[hF.size,Array.size_replicate]) j (by rw[hF.size];rw[Lib.decDigits_length]at hj;exact hj))
   rw[Lib.decDigits_length]at h;exact h
  unfold Lib.zeros24 at hcv;go_wp2
  go_ret;obtain⟨os,eo⟩:=fin0 w (.cells Lib.zeros24 183) dk k;unfold Lib.zeros24 at eo;refine⟨rfl,?_⟩;rw[eo];exact qLR w k os
theorem fmt_any(u:Nat)(hu64:u < 18446744073709551616)(w:World)(htab:Pow w) :
 Calls prog 130 #[.int .u64 u, .int .i64 10] w fun e w'=>e=.returned (.string ⟨(Lib.decDigits u).toArray⟩)/\Below w.1.size w w':=by
 have H:=hI (fmt_inner u hu64 w htab);clear htab;go_enter func130,ntmps130
 go_wp2_with fail
 refine(H.o).mono ?_;rintro e w' ⟨rfl,hb⟩;go_wp2
 go_ret;exact⟨rfl,hb⟩
open Go Go.RowKit
abbrev Ws:=Option (List (List UInt8))
def jD(a b:Ws):Ws:=a.bind fun x=>b.map fun y=>x++y
def qZP(f:qQ->Ws):List qQ->Ws
 | []=>some []
 | t :: r=>jD (f t) (qZP f r)
def qKp(f:qQ->Ws):List qQ->Ws
 | []=>some []
 | t :: r=>jD (some [[44]]) (jD (f t) (qKp f r))
def wO(f:qQ->Ws):List qQ->Ws
 | []=>some []
 | t :: r=>jD (f t) (qKp f r)
def ifW(b:Bool)(a:Ws):Ws:=if b then a else none
def qKk(t:qQ):Bool:=t.text == [] && t.num == 0
def qJf(t:qQ):Bool:=jH t.text && t.num == 0
def qZy(t:qQ):Ws:=ifW (t.kind == zD && (t.text == [] && t.kids.length == 0)) (some [Lib.decDigits t.num.toNat])
def vY(void:Bool)(t:qQ):Ws :=
 match t.kids with
 | u :: _=>ifW (u.kind == zB && (u.num == 0 && u.kids.length == 0) && (yG u.text || void && u.text == zA)) (some [u.text,t.text])
 | []=>none
def qZ1(t:qQ):Ws:=ifW (t.kind == qO && qJf t && t.kids.length == 1) (vY false t)
inductive WT where
 | block
 | expr
section
variable (rec:WT->qQ->Ws)
def wU(t:qQ):Ws :=
 if t.kind == qL then
  match t.kids with
  | [e]=>ifW (qJf t) (jD (some [t.text,[91]]) (jD (rec .expr e) (some [[93]])))
  | _=>none
 else ifW (t.kind == zM && qJf t && t.kids.length == 0) (some [t.text])
def wZ(t:qQ):Ws:=if t.kind == qM || (t.kind == qT || t.kind == zK)then jD (some [[40]]) (jD (rec .expr t) (some [[41]]))else rec .expr t
def qY7(t:qQ):Ws :=
 if t.kind == qM then
  match t.kids with
  | [a,b]=>ifW (decide (0<=xL t.text) && t.num == 0) (jD (wZ rec a) (jD (some [t.text]) (wZ rec b)))
  | _=>none
 else if t.kind == qT then
  match t.kids with
  | [a]=>ifW (qXD t.text && t.num == 0) (jD (some [t.text]) (wZ rec a))
  | _=>none
 else if t.kind == zK then
  match t.kids with
  | [a]=>ifW (yG t.text && t.num == 0) (jD (some [[40],t.text,[41]]) (wZ rec a))
  | _=>none
 else if t.kind == zL || t.kind == qH then ifW (qKk t && t.kids.length == 0) (some [t.kind])
 else if t.kind == zD then qZy t
 else wU rec t
def qKY(t:qQ):Ws:=ifW (t.kind == zW && qJf t) (jD (some [t.text,[40]]) (jD (wO (rec .expr) t.kids) (some [[41]])))
def qQi(t:qQ):Ws :=
 match t.kids with
 | e :: b :: _=>jD (some [t.kind,[40]]) (jD (rec .expr e) (jD (some [[41]]) (rec .block b)))
 | _=>none
def qK0(t:qQ):Ws :=
 ifW (qKk t) <| match t.kids with
 | [_,_]=>qQi rec t
 | [_,_,c]=>jD (qQi rec t) (jD (some [zS]) (rec .block c))
 | _=>none
def qPF(t:qQ):Ws :=
 ifW (qKk t) <| match t.kids with
 | [x]=>ifW (t.kind == qW) (jD (wU rec x) (some [[61],qW,[40],[41]]))
 | [x,y]=>if t.kind == qP then jD (wU rec x) (jD (some [[61]]) (rec .expr y))else ifW (t.kind == qN) (jD (wU rec x) (jD (some [[61]]) (qKY rec y)))
 | _=>none
def qQn(a:Ws):Ws:=jD a (some [[59]])
def qJr(t:qQ):Ws :=
 if t.kind == kIf then qK0 rec t
 else if t.kind == qA then ifW (qKk t && t.kids.length == 2) (qQi rec t)
 else if t.kind == qE then ifW (qJf t && t.kids.length == 1) (qQn (vY false t))
 else if t.kind == zW then qQn (qKY rec t)
 else if t.kind == qV then ifW (qKk t && decide (t.kids.length<=1)) (qQn (jD (some [qV]) (wO (rec .expr) t.kids)))
 else if t.kind == qF || t.kind == qD then
  match t.kids with
  | [e]=>ifW (qKk t) (qQn (jD (some [t.kind,[40]]) (jD (rec .expr e) (some [[41]]))))
  | _=>none
 else qQn (qPF rec t)
def qVv(t:qQ):Ws:=ifW (t.kind == zX && qKk t) (jD (some [[123]]) (jD (qZP (qJr rec) t.kids) (some [[125]])))
def stepW:WT->qQ->Ws
 | .block=>qVv rec
 | .expr=>qY7 rec
def kA(t:qQ):Ws :=
 match t.kids with
 | _ :: v :: r=>ifW (qJf t) (jD (vY true t) (jD (some [[40]]) (jD (wO qZ1 ((v :: r).dropLast)) (jD (some [[41]]) (rec .block ((v :: r).getLast (List.cons_ne_nil v r)))))))
 | _=>none
end
def qZB:Nat->WT->qQ->Ws
 | 0,_,_=>none
 | n+1,x,t=>stepW (qZB n) x t
def qXa(t:qQ):Ws :=
 ifW (t.kind == qG && qJf t) <| match t.kids with
 | [_]=>qQn (vY false t)
 | [_,m]=>qQn (jD (vY false t) (jD (some [[91]]) (jD (qZy m) (some [[93]]))))
 | _=>none
def qQO(n:Nat)(t:qQ):Ws:=ifW (t.kind == qY && qKk t) (qZP (fun k=>if k.kind == qC then kA (qZB n) k else qXa k) t.kids)
theorem qK{a b:Ws}{ws:List (List UInt8)}(h:jD a b=some ws):∃ x y,a=some x/\b=some y/\ws=x++y:=by
 cases a with
 | none=>simp[jD]at h
 | some x =>
  cases b with
  | none=>simp[jD]at h
  | some y=>exact⟨x,y,rfl,rfl,by simpa[jD,eq_comm]using h⟩
theorem zN{b:Bool}{a:Ws}{ws:List (List UInt8)}(h:ifW b a=some ws):b=true/\a=some ws:=by
 unfold ifW at h;split at h
 ·rename_i hb;exact⟨hb,h⟩
 ·simp at h
/-! ### Trees whose words and numbers are no greater than a program's -/
mutual
def qZl:qQ->Prop
 | .mk k x m _ _ kids=>k.length<=1000000/\x.length<=1000000/\0<=m/\m < 18446744073709551616/\kids.length<=1000000/\qZn kids
def qZn:List qQ->Prop
 | []=>True
 | t :: r=>qZl t/\qZn r
end
theorem qZn.mem:∀ {l:List qQ},qZn l->∀ t∈l,qZl t
 | _ :: _,h,t,ht=>by
  rcases List.mem_cons.1 ht with rfl | ht
  ·exact h.1
  ·exact qZn.mem h.2 t ht
 | [],_,t,ht=>by simp at ht
theorem qZn.of:∀ {l:List qQ},(∀ t∈l,qZl t)->qZn l
 | [],_=>trivial
 | t :: r,h=>⟨h t (by simp),qZn.of (fun u hu=>h u (by simp[hu]))⟩
/-! ### The writer in memory -/
def jT(l:List (List UInt8)):List Value:=l.map fun x=>.string ⟨x.toArray⟩
structure qZk(B:Nat)(w w':World):Prop where
 below:Below B w w'
 high:∀ k cs T fr,k≠B->T≠9->w.1[k]? = some (.cells cs T fr)->w'.1[k]? = some (.cells cs T fr)
theorem qZk.refl(B:Nat)(w:World):qZk B w w:=⟨Below.refl _ _,fun _ _ _ _ _ _ h=>h⟩
theorem qZk.trans{B:Nat}{u v w:World}(h:qZk B u v)(k:qZk B v w):qZk B u w:=⟨h.below.trans k.below,fun i cs T fr h1 h2 h3=>k.high i cs T fr h1 h2 (h.high i cs T fr h1 h2 h3)⟩
theorem qZk.of_below{B:Nat}{w w':World}(h:Below w.1.size w w')(hB:B<=w.1.size):qZk B w w':=by
 refine⟨h.mono hB,fun k cs T fr _ _ h3=>?_⟩;have hk:k < w.1.size:=by
  rcases Nat.lt_or_ge k w.1.size with h' | h'
  ·exact h'
  ·simp[Array.getElem?_eq_none h']at h3
 rw[h.block k hk];exact h3
theorem qZk.alloc{B:Nat}{w w':World}(h:qZk B w w')(hB:B<=w.1.size)(o:Obj):qZk B w (w'.alloc o):=h.trans (qZk.of_below ((Below.refl _ _).alloc (Nat.le_refl _) o) (Nat.le_trans hB h.below.size))
structure WAt(lo B:Nat)(acc:List (List UInt8))(w:World):Prop where
 row:∃ v,w.1[B]? = some (.cells #[v] 132 (0,0))/\w.ownsRow (B+1) 9 1 v acc.length (jT acc)
 tab:qKT lo w
 hlo:lo<=B
 pow:Pow w
 h4:7 < lo
theorem qJ8{w:World}{b:Nat}{o:Obj}(h:w.1[b]? = some o):b < w.1.size:=by
 rcases Nat.lt_or_ge b w.1.size with h' | h'
 ·exact h'
 ·simp[Array.getElem?_eq_none h']at h
theorem WAt.lt{lo B:Nat}{acc:List (List UInt8)}{w:World}(h:WAt lo B acc w):B < w.1.size:=by
 obtain⟨v,h1,_⟩:=h.row;exact qJ8 h1
theorem WAt.below{lo B:Nat}{acc:List (List UInt8)}{w w':World}(h:WAt lo B acc w)(hb:Below w.1.size w w'):WAt lo B acc w':=by
 have hlt:=h.lt;have hl:=h.hlo;obtain⟨v,h1,h2⟩:=h.row;exact⟨⟨v,(hb.block B hlt).trans h1,h2.kept (zV hb none) (by cases v.ownBlock;exact .inl rfl;exact .inr (by simp))⟩,h.tab.under (hb.mono (by omega)),hl,h.pow.under (hb.mono (Nat.le_of_lt hlt)) (by have:=h.h4;omega),h.h4⟩
theorem WAt.alloc{lo B:Nat}{acc:List (List UInt8)}{w:World}(h:WAt lo B acc w)(o:Obj):WAt lo B acc (w.alloc o):=h.below ((Below.refl _ _).alloc (Nat.le_refl _) o)
theorem info9:(prog.info? 9).map (fun i=>(i.zero,i.size,i.bytes))=some (some (.string ⟨#[]⟩),1,16):=by kernel_rfl
theorem qU5(a b:List (List UInt8)):jT (a++b)=jT a++jT b:=by simp[jT]
theorem qZk.grown{B n:Nat}{u v:World}{x:Value}{xs:List Value}(hown:u.ownsRow (B+1) 9 1 x n xs)(hg:u.grownBy v x.ownBlock)(hB:B < u.1.size):qZk B u v:=by
 refine⟨(Below.refl B u).grown hg (by omega) (fun k hk=>by have:=(hown.lt k hk).1;omega),fun i cs T fr _ h2 h3=>?_⟩;rw[hg.block i (qJ8 h3) (fun e=>Lib.ownBlock_ne hown h3 h2 e.symm)];exact h3
theorem qZk.setCell{B:Nat}{u v:World}(h:qZk B u v)(o:Nat)(x:Value):qZk B u (v.setCell ⟨B,o,none⟩ x):=by
 refine⟨h.below.setCell (p:=⟨B,o,none⟩) (Nat.le_refl _) x,fun i cs T fr h1 h2 h3=>?_⟩;rw[hS v ⟨B,o,none⟩ x i h1];exact h.high i cs T fr h1 h2 h3
theorem set_block{w:World}{B:Nat}{v:Value}(h:w.1[B]? = some (.cells #[v] 132 (0,0)))(v':Value):(w.setCell ⟨B,0,none⟩ v').1[B]? = some (.cells #[v'] 132 (0,0)):=by
 obtain⟨hlt,he⟩:=Array.getElem?_eq_some_iff.1 h;simp[World.setCell,hlt,Array.getElem_modify,he]
theorem put_any(lo B S c:Nat)(acc xs:List (List UInt8))(w:World)(h:WAt lo B acc w)(hx:xs≠[])(hnews:∀ (j:Nat) (u:Value),(jT xs)[j]? = some u->w.cell? ((⟨S,0,none⟩:Addr).add j)=some u)(hn:acc.length+xs.length<=1000000000) :
 Calls prog 113 #[.pointer (some ⟨B,0,none⟩), .slice (some ⟨S,0,none⟩) xs.length c] w fun e w'=>e=.returned (.tuple #[])/\WAt lo B (acc++xs) w'/\qZk B w w':=by
 obtain⟨i0,hi,hz0,hz1,hz2⟩:=info_parts info9;obtain⟨v,hbk,hown⟩:=h.row;have hlt:=h.lt;have HT:=hI h;have HN:=hI hnews;have c0:w.cell? ⟨B,0,none⟩=some v:=by rw[Lib.cell_of_heap hbk];rfl
 have hxl:0 < xs.length:=by cases xs with | nil=>exact absurd rfl hx | cons=>simp
 clear h hnews;go_enter func113,ntmps113
 go_wp2_with (at_builtin;refine wpList_append_own _ rfl _ _ 113 rfl (B+1) 9 i0 (.string ⟨#[]⟩) 1 16 underlying113 hi hz0 hz1 hz2 rfl (by decide) _ _ _ rfl hown ⟨S,0,none⟩ xs.length c (jT xs) rfl (by simp[jT]) ?c1 ?c2 ?c3 ?c4 ?c5 ?_)
 case c1=>exact HN.o
 case c2=>intro u hu;simp[jT]at hu;obtain⟨x,_,rfl⟩:=hu;rfl
 case c3=>unfold maxLen;omega
 case c4=>omega
 case c5=>omega
 intro v' w2 hown' hgrow _;have hK:=qZk.grown hown hgrow hlt;have hne:some B≠v.ownBlock:=fun e=>by have:=(hown.lt B e.symm).1;omega
 have hb2:w2.1[B]? = some (.cells #[v] 132 (0,0)):=by rw[hgrow.block B hlt hne];exact hbk
 have d0:w2.cell? ⟨B,0,none⟩=some v:=by rw[Lib.cell_of_heap hb2];rfl
 have f0:w2.frozen? ⟨B,0,none⟩=false:=Lib.frozen_of_heap hb2 0;obtain⟨ao,n',cap,rfl⟩:∃ ao n' cap,v'=.slice ao n' cap:=by
  rcases hown'.2 with⟨hv,_⟩ | ⟨g,cap,cur,hv,_⟩
  ·exact⟨_,_,_,hv⟩
  ·exact⟨_,_,_,hv⟩
 go_wp2
 go_end0;refine⟨rfl,⟨⟨_,set_block hb2 _,?_⟩,?_,HT.o.hlo,HT.o.pow.under ((hK.setCell 0 _).below.mono HT.o.hlo) HT.o.h4,HT.o.h4⟩,hK.setCell _ _⟩
 ·rw[qU5,lL];refine hown'.kept (jM w2 B 0 _) (.inr ?_);intro e;have:=(hown'.lt B e).1;omega
 ·exact HT.o.tab.under ((hK.setCell 0 _).below.mono HT.o.hlo)
theorem jZ{lo B S:Nat}{acc:List (List UInt8)}{w:World}(xs:List (List UInt8))(h:WAt lo B acc w)(hx:xs≠[])(hS:w.1.size=S)(hn:acc.length+xs.length<=1000000000) :
 Calls prog 113 #[.pointer (some ⟨B,0,none⟩), .slice (some ⟨S,0,none⟩) xs.length xs.length] (w.alloc (.cells (jT xs).toArray 9)) fun e w'=>e=.returned (.tuple #[])/\WAt lo B (acc++xs) w'/\qZk B w w':=by
 subst hS;refine(put_any lo B w.1.size xs.length acc xs (w.alloc (.cells (jT xs).toArray 9)) (h.alloc _) hx ?_ hn).mono ?_
 ·intro j u hj;have hjl:j < (jT xs).length:=(List.getElem?_eq_some_iff.1 hj).1;have:(jT xs).toArray[j]? = some u:=by simpa using hj
  rw[Lib.add_plain,World.cell?_alloc_new,Nat.zero_add];simpa using hj
 ·rintro e w' ⟨rfl,h1,h2⟩;exact⟨rfl,h1,(qZk.of_below ((Below.refl _ _).alloc (Nat.le_refl _) _) (Nat.le_of_lt h.lt)).trans h2⟩
structure qWw(g o:Nat)(t:qQ)(v:Value)(w:World):Prop where
 c0:w.cell? ⟨g,o,none⟩=some (.string ⟨t.kind.toArray⟩)
 c1:w.cell? ⟨g,o+1,none⟩=some (.string ⟨t.text.toArray⟩)
 c2:w.cell? ⟨g,o+2,none⟩=some (.int .u64 t.num)
 c3:w.cell? ⟨g,o+3,none⟩=some (.int .i64 t.line)
 c4:w.cell? ⟨g,o+4,none⟩=some (.int .i64 t.col)
 c5:w.cell? ⟨g,o+5,none⟩=some v
theorem qWw.a{g o:Nat}{t:qQ}{v:Value}{w:World}(h:qWw g o t v w):w.cell? ⟨g,o,none⟩=some (.string ⟨t.kind.toArray⟩)/\w.cell? ⟨g,o+1,none⟩=some (.string ⟨t.text.toArray⟩)/\w.cell? ⟨g,o+2,none⟩=some (.int .u64 t.num)/\w.cell? ⟨g,o+3,none⟩=some (.int .i64 t.line)/\w.cell? ⟨g,o+4,none⟩=some (.int .i64 t.col)/\w.cell? ⟨g,o+5,none⟩=some v/\True:=⟨h.c0,h.c1,h.c2,h.c3,h.c4,h.c5,trivial⟩
def qWA(B:Nat)(w:World)(ts:List qQ)(g off:Nat):Prop:=g < B/\∀ i (h:i < ts.length),∃ q n c,xZ w (· < B) ts[i] (.slice q n c)/\qWw g (off+i * 6) ts[i] (.slice q n c) w
theorem xZ.shape{w:World}{ok:Nat->Prop}{t:qQ}{v:Value}(h:xZ w ok t v):∃ q c,v=.slice q t.kids.length c/\t.kids.length<=c/\c<=maxLen:=by
 cases t with
 | mk k x n l c ks =>
  obtain⟨vs,_,h2,_⟩:=h;rcases h2.2 with⟨rfl,h0⟩ | ⟨g,cap,cur,rfl,_,_,h3,h4,_⟩
  ·exact⟨none,0,by rw[show(qQ.mk k x n l c ks).kids=ks from rfl,h0],by rw[show(qQ.mk k x n l c ks).kids=ks from rfl,h0];exact Nat.le_refl _,by unfold maxLen;omega⟩
  ·exact⟨_,_,rfl,h3,h4⟩
theorem rowC_at:∀ (ts:List qQ) (vs:List Value) (i k:Nat) (hi:i < ts.length) (hv:i < vs.length),k < 6->(qZK ts vs)[i * 6+k]? = (qS ts[i] vs[i])[k]?
 | t :: ts,v :: vs,0,k,_,_,hk=>by
  rw[qZK,Nat.zero_mul,Nat.zero_add,List.getElem?_append_left (by simp[qS];omega)];rfl
 | t :: ts,v :: vs,i+1,k,hi,hv,hk=>by
  rw[qZK,List.getElem?_append_right (by simp[qS];omega)];have e:(i+1) * 6+k - (qS t v).length=i * 6+k:=by simp[qS];omega
  rw[e];exact rowC_at ts vs i k (by simpa using hi) (by simpa using hv) hk
 | [],_,i,_,hi,_,_=>by simp at hi
 | _ :: _,[],i,_,_,hv,_=>by simp at hv
theorem vV.at{w:World}{ok:Nat->Prop}:∀ {ts:List qQ} {vs:List Value},vV w ok ts vs->∀ i (h:i < ts.length) (h':i < vs.length),xZ w ok ts[i] vs[i]
 | _ :: _,_ :: _,hL,0,_,_=>hL.1
 | _ :: _,_ :: _,hL,i+1,h,h'=>vV.at hL.2 i (by simpa using h) (by simpa using h')
 | [],_,_,_,h,_=>by simp at h
 | _ :: _,[],hL,_,_,_=>hL.elim
theorem xZ.row{B:Nat}{w:World}{t:qQ}{v:Value}(h:xZ w (· < B) t v)(hk:t.kids≠[]):∃ g c,v=.slice (some ⟨g,0,none⟩) t.kids.length c/\qWA B w t.kids g 0:=by
 cases t with
 | mk k x n l c ks =>
  obtain⟨vs,h1,h2,h3⟩:=h;change ks≠[]at hk;have hlen:=vV.length ks vs h3;rcases h2.2 with⟨rfl,h0⟩ | ⟨g,cap,cur,rfl,_,hg,_⟩
  ·exact absurd (List.length_eq_zero_iff.1 h0) hk
  ·refine⟨g,cap,rfl,h1 g rfl,fun i hi=>?_⟩;change i < ks.length at hi;have hiv:i < vs.length:=by omega
   have hl:=vV.at h3 i hi hiv;obtain⟨q,c',he,_⟩:=hl.shape;have hc:=h2.cells (g:=g) rfl;refine⟨q,_,c',he ▸ hl,?_⟩;have hat:∀ (k:Nat) u,k < 6->(qS ks[i] vs[i])[k]? = some u->w.cell? ⟨g,0+i * 6+k,none⟩=some u:=fun k u hk hu=>by
    have:=hc (i * 6+k) u (by rw[rowC_at ks vs i k hi hiv hk];exact hu);rw[Lib.add_plain,Nat.zero_add]at this;rw[Nat.zero_add];exact this
   rw[<-he];exact⟨hat 0 _ (by omega) rfl,hat 1 _ (by omega) rfl,hat 2 _ (by omega) rfl,hat 3 _ (by omega) rfl,hat 4 _ (by omega) rfl,hat 5 _ (by omega) rfl⟩
theorem qWw.move{g o:Nat}{t:qQ}{v:Value}{w w':World}(h:qWw g o t v w)(hg:w'.1[g]? = w.1[g]?):qWw g o t v w' :=
 ⟨(cB hg).trans h.c0,(cB hg).trans h.c1,(cB hg).trans h.c2,(cB hg).trans h.c3,(cB hg).trans h.c4,(cB hg).trans h.c5⟩
theorem xZ.keep{B:Nat}{w w':World}{t:qQ}{v:Value}(h:xZ w (· < B) t v)(hb:Below B w w'):xZ w' (· < B) t v:=xZ.move (fun g _ hg=>⟨hg,hb.block g hg⟩) t v h
theorem qWA.keep{B:Nat}{w w':World}{ts:List qQ}{g off:Nat}(h:qWA B w ts g off)(hb:Below B w w'):qWA B w' ts g off :=
 ⟨h.1,fun i hi=>by obtain⟨q,n,c,h1,h2⟩:=h.2 i hi;exact⟨q,n,c,h1.keep hb,h2.move (hb.block g h.1)⟩⟩
theorem qWA.sub{B:Nat}{w:World}{ts:List qQ}{g off:Nat}(h:qWA B w ts g off)(us:List qQ)(d:Nat)(hus:∀ i (hi:i < us.length),∃ h:d+i < ts.length,ts[d+i]=us[i]):qWA B w us g (off+d * 6) :=
 ⟨h.1,fun i hi=>by
  obtain⟨hd,he⟩:=hus i hi;obtain⟨q,n,c,h1,h2⟩:=h.2 (d+i) hd;rw[he]at h1 h2;exact⟨q,n,c,h1,by rw[show off+d * 6+i * 6=off+(d+i) * 6 by omega];exact h2⟩⟩
theorem vL(w:World)(o:Obj):(w.alloc o).1[w.1.size]? = some o:=by unfold World.alloc;simp
def yD(B:Nat)(w:World)(ts:List qQ)(q:Option Addr):Prop:=ts=[]\/∃ g off,q=some ⟨g,off,none⟩/\qWA B w ts g off
theorem yD.keep{B:Nat}{w w':World}{ts:List qQ}{q:Option Addr}(h:yD B w ts q)(hb:Below B w w'):yD B w' ts q:=by
 rcases h with h | ⟨g,off,h1,h2⟩
 ·exact .inl h
 ·exact .inr ⟨g,off,h1,h2.keep hb⟩
theorem xZ.kids{B:Nat}{w:World}{t:qQ}{v:Value}(h:xZ w (· < B) t v):∃ q c,v=.slice q t.kids.length c/\t.kids.length<=c/\c<=maxLen/\yD B w t.kids q:=by
 obtain⟨q,c,hv,h1,h2⟩:=h.shape;by_cases hk:t.kids=[]
 ·exact⟨q,c,hv,h1,h2, .inl hk⟩
 ·obtain⟨g,c',hv',hr⟩:=h.row hk;rw[hv]at hv';injection hv' with e1 e2 e3;subst e1 e3;exact⟨_,c,hv,h1,h2, .inr ⟨g,0,rfl,hr⟩⟩
structure Sw(w0:World)(lo B N:Nat)(acc:List (List UInt8))(t:qQ)(v:Value)(w:World):Prop where
 wr:WAt lo B acc w
 kp:qZk B w0 w
 nd:w.1[N]? = some (.cells (qS t v).toArray 57)
 li:xZ w (· < B) t v
 hN:B < N
 hw0:B < w0.1.size
section
variable {w0 w w':World} {lo B N:Nat} {acc:List (List UInt8)} {t:qQ} {v:Value}
theorem Sw.start(h:WAt lo B acc w)(hl:xZ w (· < B) t v):Sw w lo B w.1.size acc t v (w.alloc (.cells (qS t v).toArray 57)) :=
 ⟨h.alloc _,qZk.of_below ((Below.refl _ _).alloc (Nat.le_refl _) _) (Nat.le_of_lt h.lt),vL _ _,hl.keep (((Below.refl _ _).alloc (Nat.le_refl _) _).mono (Nat.le_of_lt h.lt)),h.lt,h.lt⟩
theorem Sw.call{acc':List (List UInt8)}(h:Sw w0 lo B N acc t v w)(hw:WAt lo B acc' w')(hk:qZk B w w'):Sw w0 lo B N acc' t v w' :=
 ⟨hw,h.kp.trans hk,hk.high N _ 57 _ (by have:=h.hN;omega) (by decide) h.nd,h.li.keep hk.below,h.hN,h.hw0⟩
theorem Sw.below(h:Sw w0 lo B N acc t v w)(hb:Below w.1.size w w'):Sw w0 lo B N acc t v w':=h.call (h.wr.below hb) (qZk.of_below hb (Nat.le_of_lt h.wr.lt))
theorem Sw.alloc(h:Sw w0 lo B N acc t v w)(o:Obj):Sw w0 lo B N acc t v (w.alloc o):=h.below ((Below.refl _ _).alloc (Nat.le_refl _) o)
theorem Sw.lt(h:Sw w0 lo B N acc t v w):N < w.1.size:=qJ8 h.nd
theorem Sw.node(h:Sw w0 lo B N acc t v w):qWw N 0 t v w:=by
 have hn:=h.nd;constructor <;> (rw[Lib.cell_of_heap hn];rfl)
theorem Sw.cells{k x:List UInt8}{m ln co:Int}{ks:List qQ}(h:Sw w0 lo B N acc (.mk k x m ln co ks) v w) :
 w.cell? ⟨N,0,none⟩=some (.string ⟨k.toArray⟩)/\w.cell? ⟨N,1,none⟩=some (.string ⟨x.toArray⟩)/\w.cell? ⟨N,2,none⟩=some (.int .u64 m)/\w.cell? ⟨N,3,none⟩=some (.int .i64 ln)/\w.cell? ⟨N,4,none⟩=some (.int .i64 co)/\w.cell? ⟨N,5,none⟩=some v:=by
 have hn:=h.node;exact⟨hn.c0,hn.c1,hn.c2,hn.c3,hn.c4,hn.c5⟩
end
def kZ(f:Nat)(args:Value->Value->Array Value)(p:qQ->Ws):Prop :=
 ∀ (lo B:Nat) (acc:List (List UInt8)) (t:qQ) (v:Value) (w:World) (ws:List (List UInt8)),WAt lo B acc w->xZ w (· < B) t v->qZl t->p t=some ws->acc.length+ws.length<=1000000000 ->
  Calls prog f (args (.pointer (some ⟨B,0,none⟩)) (qZ t v)) w fun e w'=>e=.returned (.tuple #[])/\WAt lo B (acc++ws) w'/\qZk B w w'
/-! ### The small questions,answered with yes -/
theorem wB{L:Nat}{t:qQ}{v:Value}{q:Option Addr}{vn vc:Nat}{lo hi:Int}(w:World)(_:qKT L w)(hv:v=.slice q vn vc)(h:qKk t=true)(h1:lo<=vn)(h2:(vn:Int)<=hi) :
 Calls prog 93 #[qZ t v, .int .i64 lo, .int .i64 hi] w fun e w'=>e=.returned (.bool true)/\Below w.1.size w w':=by
 subst hv;have:=bare_any t.kind t.text t.num t.line t.col q vn vc lo hi w;have hb:bareB t.text t.num vn lo hi=true:=by simp only[qKk,bE]at h;simp[bareB,qJl,h.1,h.2,h1,h2]
 rw[hb]at this;exact this
theorem qXA{L:Nat}{t:qQ}{v:Value}{q:Option Addr}{vn vc:Nat}{lo hi:Int}(w:World)(_:qKT L w)(hv:v=.slice q vn vc)(h:(t.num == 0)=true)(h1:lo<=vn)(h2:(vn:Int)<=hi) :
 Calls prog 110 #[qZ t v, .int .i64 lo, .int .i64 hi] w fun e w'=>e=.returned (.bool true)/\Below w.1.size w w':=by
 subst hv;have:=qYt t.kind t.text t.num t.line t.col q vn vc lo hi w;have hb:qJl t.num vn lo hi=true:=by simp[qJl,h,h1,h2]
 rw[hb]at this;exact this
theorem qZg{L:Nat}{t:qQ}{v:Value}{q:Option Addr}{vn vc:Nat}{lo hi:Int}(w:World)(hk:qKT L w)(hl:t.text.length<=1000000)(hv:v=.slice q vn vc)(h:qJf t=true)(h1:lo<=vn)(h2:(vn:Int)<=hi) :
 Calls prog 111 #[qZ t v, .int .i64 lo, .int .i64 hi] w fun e w'=>e=.returned (.bool true)/\Below w.1.size w w':=by
 subst hv;simp only[qJf,bE]at h;have ha:=(Below.refl w.1.size w).alloc (Nat.le_refl _) (.cells #[.string ⟨t.kind.toArray⟩, .string ⟨t.text.toArray⟩, .int .u64 t.num, .int .i64 t.line, .int .i64 t.col, .slice q vn vc] 57);have HN:=hI (isName_any ⟨t.text.toArray⟩ _ (hk.under (ha.mono hk.2.1)).keys (by simpa[ByteArray.size]using hl));have HT:=hI (qXA (t:=t) (v:=.slice q vn vc) (lo:=lo) (hi:=hi) (w.alloc (.cells #[.string ⟨t.kind.toArray⟩, .string ⟨t.text.toArray⟩, .int .u64 t.num, .int .i64 t.line, .int .i64 t.col, .slice q vn vc] 57)) (hk.under (ha.mono hk.2.1)) rfl h.2 h1 h2);have h3:jH (⟨t.text.toArray⟩:ByteArray).data.toList=true:=by simpa using h.1
 rw[h3]at HN;have HA:=hI ha;clear ha h3 h hk;unfold qZ at *;go_enter func111,ntmps111
 go_wp2_with fail
 refine(HN.o).mono ?_;rintro e w1 ⟨rfl,rfl⟩;go_wp2_with fail
 refine(HT.o).mono ?_;rintro e w2 ⟨rfl,hb⟩;go_wp2
 go_ret;exact⟨rfl,HA.o.trans (hb.mono HA.o.size)⟩
theorem qVn(rec:WT->qQ->Ws)(hex:kZ 150 (fun p n=>#[p,n]) (rec .expr)):kZ 165 (fun p n=>#[p,n]) (wU rec):=by
 intro lo B acc t v w ws hW hL hF he hlen;obtain⟨k,x,m,ln,co,ks⟩:=t;obtain⟨hFk,hFx,hFm0,hFm1,hFn,hFL⟩:=id hF;unfold wU at he;simp only[qQ.kind,qQ.kids,qQ.text]at he;cases hk:(k == qL);case false =>
  simp only[hk,bF,if_false,reduceIte]at he;obtain⟨hb,hws⟩:=zN he;simp only[bE,beq_iff_eq,List.length_eq_zero_iff]at hb;obtain⟨⟨rfl,hnm⟩,rfl⟩:=hb;injection hws with hws;subst hws;clear he hk;obtain⟨q0,vc,hv,hvc,hvm⟩:=hL.shape;simp only[tQ,List.length]at hv;subst hv;have S0:=hI (Sw.start hW hL);have HF:=hI hF;have HFL:=hI hFL;have HLEN:=hI hlen;have hBw:=hW.lt;have HFX:=hI hFx;have HFN:=hI hFn;clear hW hF hL hFL hlen hFk hFx hFn;try simp only[qZ,qS,tQ]at *
  unfold zM at *;go_enter func165,ntmps165
  obtain⟨c0,c1,c2,c3,c4,c5⟩:=S0.o.cells;have hszN:=S0.o.lt;go_wp2_with fail
  try clear c0 c1 c2 c3 c4 c5
  try clear hszN
  have HQ:=qZg (t:=(.mk [110,97,109,101] x m ln co [])) (v:=.slice q0 0 vc) (lo:=0) (hi:=0) _ S0.o.wr.tab HFX.o rfl hnm (by first | simp | omega | (have:=HFN.o;(try simp only[List.length]at this ⊢);omega)) (by first | simp | omega | (have:=HFN.o;(try simp only[List.length]at this ⊢);omega));simp only[qZ,tQ]at HQ;refine HQ.mono ?_;clear HQ;rintro e w1 ⟨rfl,hb1⟩;have S1:=hI (S0.o.below hb1);clear S0 hb1;obtain⟨c0,c1,c2,c3,c4,c5⟩:=S1.o.cells;have hszN:=S1.o.lt;go_wp2_with fail
  refine(jF _).mono ?_;rintro e w' ⟨rfl,rfl⟩;try clear c0 c1 c2 c3 c4 c5 hszN
  obtain⟨c0,c1,c2,c3,c4,c5⟩:=S1.o.cells;have hszN:=S1.o.lt;go_wp2_with fail
  try clear c0 c1 c2 c3 c4 c5
  try clear hszN
  have H:=jZ (S:=w1.1.size) [x] S1.o.wr (by simp) (by simp) (by have:=HLEN.o;(try simp only[lL,lO,lZ]at this ⊢);omega);simp only[jT,List.map,List.length]at H;refine H.mono ?_;clear H;rintro e w2 ⟨rfl,hW2,hK2⟩;have S2:=hI (S1.o.call hW2 hK2);clear S1 hW2 hK2;go_wp2
  first | go_end0 | refine bodyPost_ret (v:=.tuple #[]) (by simp[results,results165,go_sem]) rfl ?_
  exact⟨rfl,by simpa[List.append_assoc,qY,qG,qC,qO,zB,zD,zX,qE,kIf,zS,qA,qV,qF,qD,qP,qW,qN,zW,zM,qL,qM,qT,zK,zL,qH,zA]using S2.o.wr,S2.o.kp⟩
 case true =>
  simp only[hk,if_true,reduceIte]at he;obtain rfl:k=qL:=by simpa using hk
  clear hk;rcases ks with _ | ⟨a,_ | ⟨a2,r⟩⟩
  ·simp at he
  rotate_left
  ·simp at he
  simp only at he;obtain⟨hnm,he1⟩:=zN he;clear he;obtain⟨w1,w2,h1,he2,rfl⟩:=qK he1;clear he1;injection h1 with h1;subst h1;obtain⟨ws1,w4,hea,h1,rfl⟩:=qK he2;clear he2;injection h1 with h1;subst h1;obtain⟨g0,vc,hv,hR⟩:=hL.row (by simp[qQ.kids]);have HR:=hI hR;clear hR;simp only[tQ,List.length]at hv;subst hv;have S0:=hI (Sw.start hW hL);have HF:=hI hF;have HFL:=hI hFL;have HLEN:=hI hlen;have hBw:=hW.lt;have HFX:=hI hFx;have HFN:=hI hFn;clear hW hF hL hFL hlen hFk hFx hFn;try simp only[qZ,qS,tQ]at *
  unfold qL at *;go_enter func165,ntmps165
  obtain⟨c0,c1,c2,c3,c4,c5⟩:=S0.o.cells;have hszN:=S0.o.lt;go_wp2_with fail
  try clear c0 c1 c2 c3 c4 c5
  try clear hszN
  have HQ:=qZg (t:=(.mk [105,110,100,101,120] x m ln co [a])) (v:=.slice (some ⟨g0,0,none⟩) 1 vc) (lo:=1) (hi:=1) _ S0.o.wr.tab HFX.o rfl hnm (by first | simp | omega | (have:=HFN.o;(try simp only[List.length]at this ⊢);omega)) (by first | simp | omega | (have:=HFN.o;(try simp only[List.length]at this ⊢);omega));simp only[qZ,tQ]at HQ;refine HQ.mono ?_;clear HQ;rintro e w1 ⟨rfl,hb1⟩;have S1:=hI (S0.o.below hb1);clear S0 hb1;obtain⟨c0,c1,c2,c3,c4,c5⟩:=S1.o.cells;have hszN:=S1.o.lt;go_wp2_with fail
  refine(jF _).mono ?_;rintro e w' ⟨rfl,rfl⟩;try clear c0 c1 c2 c3 c4 c5 hszN
  obtain⟨c0,c1,c2,c3,c4,c5⟩:=S1.o.cells;have hszN:=S1.o.lt;go_wp2_with fail
  try clear c0 c1 c2 c3 c4 c5
  try clear hszN
  have H:=jZ (S:=w1.1.size) [x,[91]] S1.o.wr (by simp) (by simp) (by have:=HLEN.o;(try simp only[lL,lO,lZ]at this ⊢);omega);simp only[jT,List.map,List.length]at H;refine H.mono ?_;clear H;rintro e w2 ⟨rfl,hW2,hK2⟩;have S2:=hI (S1.o.call hW2 hK2);clear S1 hW2 hK2;obtain⟨qa,na,ca,hla,hca⟩:=(HR.o.keep S2.o.kp.below).2 0 (by simp);simp only[Nat.zero_add,Nat.zero_mul,Nat.one_mul,Nat.reduceAdd,Nat.reduceMul,List.getElem_cons_zero,List.getElem_cons_succ]at hla hca;have⟨k0,k1,k2,k3,k4,k5,_⟩:=hca.a;simp only[Nat.zero_add,Nat.zero_mul,Nat.one_mul,Nat.reduceAdd,Nat.reduceMul,List.getElem_cons_zero,List.getElem_cons_succ]at k0 k1 k2 k3 k4 k5;have HC:=hI (hex lo B (acc++[x,[91]]) a (.slice qa na ca) _ ws1 S2.o.wr hla (HFL.o.mem _ (by simp)) hea (by have:=HLEN.o;(try simp only[lL,lO,lZ]at this ⊢);omega));clear hca hla;try simp only[qZ]at HC
  obtain⟨c0,c1,c2,c3,c4,c5⟩:=S2.o.cells;have hszN:=S2.o.lt;go_wp2_with fail
  try clear c0 c1 c2 c3 c4 c5
  try clear hszN
  try clear k0 k1 k2 k3 k4 k5
  refine(HC.o).mono ?_;rintro e w3 ⟨rfl,hW3,hK3⟩;have S3:=hI (S2.o.call hW3 hK3);clear S2 hW3 hK3 HC;obtain⟨c0,c1,c2,c3,c4,c5⟩:=S3.o.cells;have hszN:=S3.o.lt;go_wp2_with fail
  try clear c0 c1 c2 c3 c4 c5
  try clear hszN
  have H:=jZ (S:=w3.1.size) [[93]] S3.o.wr (by simp) (by simp) (by have:=HLEN.o;(try simp only[lL,lO,lZ]at this ⊢);omega);simp only[jT,List.map,List.length]at H;refine H.mono ?_;clear H;rintro e w4 ⟨rfl,hW4,hK4⟩;have S4:=hI (S3.o.call hW4 hK4);clear S3 hW4 hK4;go_wp2
  first | go_end0 | refine bodyPost_ret (v:=.tuple #[]) (by simp[results,results165,go_sem]) rfl ?_
  exact⟨rfl,by simpa[List.append_assoc,qY,qG,qC,qO,zB,zD,zX,qE,kIf,zS,qA,qV,qF,qD,qP,qW,qN,zW,zM,qL,qM,qT,zK,zL,qH,zA]using S4.o.wr,S4.o.kp⟩
def Hn(T:Nat)(t:qQ)(v:Value)(w:World):Prop:=w.1[T]? = some (.cells (qS t v).toArray 57)
theorem Hn.new(t:qQ)(v:Value)(w:World):Hn w.1.size t v (w.alloc (.cells (qS t v).toArray 57)):=vL _ _
theorem Hn.keep{T B:Nat}{t:qQ}{v:Value}{w w':World}(h:Hn T t v w)(hk:qZk B w w')(hT:B < T):Hn T t v w':=hk.high T _ 57 _ (by omega) (by decide) h
theorem Hn.below{T:Nat}{t:qQ}{v:Value}{w w':World}(h:Hn T t v w)(hb:Below w.1.size w w'):Hn T t v w':=(hb.block T (qJ8 h)).trans h
theorem Hn.lt{T:Nat}{t:qQ}{v:Value}{w:World}(h:Hn T t v w):T < w.1.size:=qJ8 h
theorem Hn.cells{T:Nat}{t:qQ}{v:Value}{w:World}(h:Hn T t v w) :
 w.cell? ⟨T,0,none⟩=some (.string ⟨t.kind.toArray⟩)/\w.cell? ⟨T,1,none⟩=some (.string ⟨t.text.toArray⟩)/\w.cell? ⟨T,2,none⟩=some (.int .u64 t.num)/\w.cell? ⟨T,3,none⟩=some (.int .i64 t.line)/\w.cell? ⟨T,4,none⟩=some (.int .i64 t.col)/\w.cell? ⟨T,5,none⟩=some v:=by
 refine⟨?_,?_,?_,?_,?_,?_⟩ <;> (rw[Lib.cell_of_heap h];rfl)
theorem qXn(void:Bool):kZ 112 (fun p n=>#[p,n, .bool void]) (vY void):=by
 intro lo B acc t v w ws hW hL hF he hlen;obtain⟨k,x,m,ln,co,ks⟩:=t;obtain⟨hFk,hFx,hFm0,hFm1,hFn,hFL⟩:=id hF;unfold vY at he;simp only[qQ.kids,qQ.text]at he;rcases ks with _ | ⟨u,r⟩
 ·simp at he
 simp only at he;obtain⟨hb,hws⟩:=zN he;clear he;injection hws with hws;subst hws;simp only[bE]at hb;obtain⟨⟨hkt,hnm,hlk⟩,hty⟩:=hb;have hun:=hFL.1;obtain⟨uk,ux,um,uln,uco,uks⟩:=u;simp only[qQ.kind,qQ.num,qQ.kids,qQ.text,beq_iff_eq,List.length_eq_zero_iff]at hkt hlk;obtain rfl:=hkt;obtain rfl:=hlk;obtain⟨g0,vc,hv,hR⟩:=hL.row (by simp[qQ.kids]);have HR:=hI hR;clear hR;simp only[tQ,List.length]at hv;subst hv;have S0:=hI (Sw.start hW hL);have HF:=hI hF;have HFL:=hI hFL;have HLEN:=hI hlen;have hBw:=hW.lt;have HFX:=hI hFx;have HFN:=hI hFn;clear hW hF hL hFL hlen hFk hFx hFn;try simp only[qZ,qS,tQ]at *
 go_enter func112,ntmps112
 obtain⟨qa,na,ca,hla,hca⟩:=(HR.o.keep S0.o.kp.below).2 0 (by simp);simp only[Nat.zero_add,Nat.zero_mul,Nat.one_mul,Nat.reduceAdd,Nat.reduceMul,List.getElem_cons_zero,List.getElem_cons_succ]at hla hca;obtain⟨qb,cb,hvb,_,_⟩:=hla.shape;simp only[qQ.kids,List.length]at hvb;injection hvb with e1 e2 e3;subst e1 e2 e3;have⟨k0,k1,k2,k3,k4,k5,_⟩:=hca.a;simp only[Nat.zero_add,Nat.zero_mul,Nat.one_mul,Nat.reduceAdd,Nat.reduceMul,List.getElem_cons_zero,List.getElem_cons_succ,tQ]at k0 k1 k2 k3 k4 k5;obtain⟨c0,c1,c2,c3,c4,c5⟩:=S0.o.cells;have hszN:=S0.o.lt;have S1:=hI (S0.o.alloc (.cells (qS (.mk zB ux um uln uco []) (.slice qa 0 ca)).toArray 57));have T1:=hI (Hn.new (.mk zB ux um uln uco []) (.slice qa 0 ca) (w.alloc (.cells (qS (.mk k x m ln co (.mk zB ux um uln uco [] :: r)) (.slice (some ⟨g0,0,none⟩) (r.length+1) vc)).toArray 57)));have hr0:(0:Int) < ((r.length:Int)+1):=by omega
 clear hca hla;simp only[qS,tQ]at S1 T1;unfold zB at *;go_wp2_with fail
 have HQ:=qXA (t:=.mk [116,121,112,101] ux um uln uco []) (v:=.slice qa 0 ca) (lo:=0) (hi:=0) ((w.alloc (.cells #[.string ⟨k.toArray⟩, .string ⟨x.toArray⟩, .int .u64 m, .int .i64 ln, .int .i64 co, .slice (some ⟨g0,0,none⟩) (r.length+1) vc] 57)).alloc (.cells #[.string ⟨#[116,121,112,101]⟩, .string ⟨ux.toArray⟩, .int .u64 um, .int .i64 uln, .int .i64 uco, .slice qa 0 ca] 57)) S1.o.wr.tab rfl (by simpa[qQ.num]using hnm) (by simp) (by simp);simp only[qZ,tQ]at HQ;refine HQ.mono ?_;clear HQ;rintro e w2 ⟨rfl,hb2⟩;have S2:=hI (S1.o.below hb2);have T2:=hI (T1.o.below hb2);clear S0 S1 T1 hb2 k0 k1 k2 k3 k4 k5;try clear c0 c1 c2 c3 c4 c5
 try clear hszN
 obtain⟨k0,k1,k2,k3,k4,k5⟩:=T2.o.cells;simp only[World.size_alloc,tQ]at k0 k1 k2 k3 k4 k5;obtain⟨c0,c1,c2,c3,c4,c5⟩:=S2.o.cells;have hszN:=S2.o.lt;go_wp2_with fail
 refine(jF _).mono ?_;rintro e w' ⟨rfl,rfl⟩;try clear c0 c1 c2 c3 c4 c5 hszN
 obtain⟨c0,c1,c2,c3,c4,c5⟩:=S2.o.cells;have hszN:=S2.o.lt;have HTY:=hI (qXC ⟨ux.toArray⟩ w2 S2.o.wr.tab.types);have hdt:(⟨ux.toArray⟩:ByteArray).data.toList=ux:=by simp
 rw[hdt]at HTY;clear hdt;cases ht:yG ux;case false =>
  rw[ht]at HTY hty;obtain⟨hv1,hv2⟩:void=true/\ux=zA:=by simpa using hty
  subst hv1 hv2;unfold zA at *;go_wp2_with fail
  refine(HTY.o).mono ?_;rintro e w' ⟨rfl,rfl⟩;go_wp2_with fail
  refine(jF _).mono ?_;rintro e w' ⟨rfl,rfl⟩;try clear c0 c1 c2 c3 c4 c5 hszN
  skip
  obtain⟨c0,c1,c2,c3,c4,c5⟩:=S2.o.cells;have hszN:=S2.o.lt;go_wp2_with fail
  try clear c0 c1 c2 c3 c4 c5
  try clear hszN
  have H:=jZ (S:=w2.1.size) [[118,111,105,100],x] S2.o.wr (by simp) (by simp) (by have:=HLEN.o;(try simp only[lL,lO,lZ]at this ⊢);omega);simp only[jT,List.map,List.length]at H;refine H.mono ?_;clear H;rintro e w3 ⟨rfl,hW3,hK3⟩;have S3:=hI (S2.o.call hW3 hK3);clear S2 hW3 hK3;go_wp2
  first | go_end0 | refine bodyPost_ret (v:=.tuple #[]) (by simp[results,results112,go_sem]) rfl ?_
  exact⟨rfl,by simpa[List.append_assoc,qY,qG,qC,qO,zB,zD,zX,qE,kIf,zS,qA,qV,qF,qD,qP,qW,qN,zW,zM,qL,qM,qT,zK,zL,qH,zA]using S3.o.wr,S3.o.kp⟩
 case true =>
  rw[ht]at HTY hty;go_wp2_with fail
  refine(HTY.o).mono ?_;rintro e w' ⟨rfl,rfl⟩;go_wp2_with fail
  refine(jF _).mono ?_;rintro e w' ⟨rfl,rfl⟩;try clear c0 c1 c2 c3 c4 c5 hszN
  skip
  obtain⟨c0,c1,c2,c3,c4,c5⟩:=S2.o.cells;have hszN:=S2.o.lt;go_wp2_with fail
  try clear c0 c1 c2 c3 c4 c5
  try clear hszN
  have H:=jZ (S:=w2.1.size) [ux,x] S2.o.wr (by simp) (by simp) (by have:=HLEN.o;(try simp only[lL,lO,lZ]at this ⊢);omega);simp only[jT,List.map,List.length]at H;refine H.mono ?_;clear H;rintro e w3 ⟨rfl,hW3,hK3⟩;have S3:=hI (S2.o.call hW3 hK3);clear S2 hW3 hK3;go_wp2
  first | go_end0 | refine bodyPost_ret (v:=.tuple #[]) (by simp[results,results112,go_sem]) rfl ?_
  exact⟨rfl,by simpa[List.append_assoc,qY,qG,qC,qO,zB,zD,zX,qE,kIf,zS,qA,qV,qF,qD,qP,qW,qN,zW,zM,qL,qM,qT,zK,zL,qH,zA]using S3.o.wr,S3.o.kp⟩
theorem qPT :kZ 117 (fun p n=>#[p,n]) (qZy):=by
 intro lo B acc t v w ws hW hL hF he hlen;obtain⟨k,x,m,ln,co,ks⟩:=t;obtain⟨hFk,hFx,hFm0,hFm1,hFn,hFL⟩:=id hF;simp only[qZy,qY,qG,qC,qO,zB,zD,zX,qE,kIf,zS,qA,qV,qF,qD,qP,qW,qN,zW,zM,qL,qM,qT,zK,zL,qH,zA,tQ]at he;obtain⟨hb,hws⟩:=zN he;clear he;injection hws with hws;subst hws;simp only[bE,beq_iff_eq,List.length_eq_zero_iff]at hb;obtain⟨rfl,rfl,rfl⟩:=hb;obtain⟨u,rfl⟩:∃ u:Nat,m=u:=⟨m.toNat,by omega⟩;have hu:u < 18446744073709551616:=by omega
 obtain⟨q0,vc,hv,hvc,hvm⟩:=hL.shape;simp only[tQ,List.length]at hv;subst hv;have S0:=hI (Sw.start hW hL);have HF:=hI hF;have HFL:=hI hFL;have HLEN:=hI hlen;have hBw:=hW.lt;have HFX:=hI hFx;have HFN:=hI hFn;clear hW hF hL hFL hlen hFk hFx hFn;try simp only[qZ,qS,tQ]at *
 try simp only[Int.toNat_natCast]at *
 go_enter func117,ntmps117
 obtain⟨c0,c1,c2,c3,c4,c5⟩:=S0.o.cells;have hszN:=S0.o.lt;go_wp2_with fail
 refine(jF _).mono ?_;rintro e w' ⟨rfl,rfl⟩;try clear c0 c1 c2 c3 c4 c5 hszN
 obtain⟨c0,c1,c2,c3,c4,c5⟩:=S0.o.cells;have hszN:=S0.o.lt;go_wp2_with fail
 try clear c0 c1 c2 c3 c4 c5
 try clear hszN
 refine(fmt_any u hu _ S0.o.wr.pow).mono ?_;rintro e w1 ⟨rfl,hb1⟩;have S1:=hI (S0.o.below hb1);clear S0 hb1;obtain⟨c0,c1,c2,c3,c4,c5⟩:=S1.o.cells;have hszN:=S1.o.lt;go_wp2_with fail
 try clear c0 c1 c2 c3 c4 c5
 try clear hszN
 have H:=jZ (S:=w1.1.size) [Lib.decDigits u] S1.o.wr (by simp) (by simp) (by have:=HLEN.o;(try simp only[lL,lO,lZ]at this ⊢);omega);simp only[jT,List.map,List.length]at H;refine H.mono ?_;clear H;rintro e w2 ⟨rfl,hW2,hK2⟩;have S2:=hI (S1.o.call hW2 hK2);clear S1 hW2 hK2;go_wp2
 first | go_end0 | refine bodyPost_ret (v:=.tuple #[]) (by simp[results,results117,go_sem]) rfl ?_
 exact⟨rfl,by simpa[List.append_assoc,qY,qG,qC,qO,zB,zD,zX,qE,kIf,zS,qA,qV,qF,qD,qP,qW,qN,zW,zM,qL,qM,qT,zK,zL,qH,zA]using S2.o.wr,S2.o.kp⟩
theorem qJ9(rec:WT->qQ->Ws)(hex:kZ 150 (fun p n=>#[p,n]) (rec .expr)):kZ 163 (fun p n=>#[p,n]) (wZ rec):=by
 intro lo B acc t v w ws hW hL hF he hlen;obtain⟨k,x,m,ln,co,ks⟩:=t;obtain⟨hFk,hFx,hFm0,hFm1,hFn,hFL⟩:=id hF;simp only[wZ,qY,qG,qC,qO,zB,zD,zX,qE,kIf,zS,qA,qV,qF,qD,qP,qW,qN,zW,zM,qL,qM,qT,zK,zL,qH,zA,tQ]at he;cases hq3:(k == [98,105,110,97,114,121]);case true =>
  simp only[hq3,bU,bV,bT,if_true,reduceIte]at he;obtain rfl:k=[98,105,110,97,114,121]:=by simpa using hq3
  clear hq3;obtain⟨ws1,wr1,hc1,hd1,hx1⟩:=qK he;subst hx1;clear he;injection hc1 with hc1;subst hc1;obtain⟨ws2,wr2,hc2,hd2,hx2⟩:=qK hd1;subst hx2;clear hd1;injection hd2 with hd2;subst hd2;obtain⟨q0,vc,hv,hvc,hvm⟩:=hL.shape;simp only[tQ,List.length]at hv;subst hv;have S0:=hI (Sw.start hW hL);have HF:=hI hF;have HFL:=hI hFL;have HLEN:=hI hlen;have hBw:=hW.lt;have HFX:=hI hFx;have HFN:=hI hFn;clear hW hF hL hFL hlen hFk hFx hFn;try simp only[qZ,qS,tQ]at *
  go_enter func163,ntmps163
  obtain⟨c0,c1,c2,c3,c4,c5⟩:=S0.o.cells;have hszN:=S0.o.lt;go_wp2_with fail
  try clear c0 c1 c2 c3 c4 c5
  try clear hszN
  have H:=jZ (S:=w.1.size+1) [[40]] S0.o.wr (by simp) (by simp) (by have:=HLEN.o;(try simp only[lL,lO,lZ]at this ⊢);omega);simp only[jT,List.map,List.length]at H;refine H.mono ?_;clear H;rintro e w3 ⟨rfl,hW3,hK3⟩;have S3:=hI (S0.o.call hW3 hK3);clear S0 hW3 hK3;have HC:=hI (hex lo B (acc++[[40]]) (.mk [98,105,110,97,114,121] x m ln co ks) _ _ ws2 S3.o.wr S3.o.li HF.o hc2 (by have:=HLEN.o;(try simp only[lL,lO,lZ]at this ⊢);omega));try simp only[qZ,tQ]at HC
  obtain⟨c0,c1,c2,c3,c4,c5⟩:=S3.o.cells;have hszN:=S3.o.lt;go_wp2_with fail
  try clear c0 c1 c2 c3 c4 c5
  try clear hszN
  refine(HC.o).mono ?_;rintro e w4 ⟨rfl,hW4,hK4⟩;have S4:=hI (S3.o.call hW4 hK4);clear S3 hW4 hK4 HC;obtain⟨c0,c1,c2,c3,c4,c5⟩:=S4.o.cells;have hszN:=S4.o.lt;go_wp2_with fail
  try clear c0 c1 c2 c3 c4 c5
  try clear hszN
  have H:=jZ (S:=w4.1.size) [[41]] S4.o.wr (by simp) (by simp) (by have:=HLEN.o;(try simp only[lL,lO,lZ]at this ⊢);omega);simp only[jT,List.map,List.length]at H;refine H.mono ?_;clear H;rintro e w5 ⟨rfl,hW5,hK5⟩;have S5:=hI (S4.o.call hW5 hK5);clear S4 hW5 hK5;go_wp2
  first | go_end0 | refine bodyPost_ret (v:=.tuple #[]) (by simp[results,results163,go_sem]) rfl ?_
  exact⟨rfl,by simpa[List.append_assoc,qY,qG,qC,qO,zB,zD,zX,qE,kIf,zS,qA,qV,qF,qD,qP,qW,qN,zW,zM,qL,qM,qT,zK,zL,qH,zA]using S5.o.wr,S5.o.kp⟩
 case false =>
 simp only[hq3,bO,bP,bF,if_false,reduceIte]at he;cases hq2:(k == [117,110,97,114,121]);case true =>
  simp only[hq2,bU,bV,bT,if_true,reduceIte]at he;obtain rfl:k=[117,110,97,114,121]:=by simpa using hq2
  clear hq2;obtain⟨ws1,wr1,hc1,hd1,hx1⟩:=qK he;subst hx1;clear he;injection hc1 with hc1;subst hc1;obtain⟨ws2,wr2,hc2,hd2,hx2⟩:=qK hd1;subst hx2;clear hd1;injection hd2 with hd2;subst hd2;obtain⟨q0,vc,hv,hvc,hvm⟩:=hL.shape;simp only[tQ,List.length]at hv;subst hv;have S0:=hI (Sw.start hW hL);have HF:=hI hF;have HFL:=hI hFL;have HLEN:=hI hlen;have hBw:=hW.lt;have HFX:=hI hFx;have HFN:=hI hFn;clear hW hF hL hFL hlen hFk hFx hFn;try simp only[qZ,qS,tQ]at *
  go_enter func163,ntmps163
  obtain⟨c0,c1,c2,c3,c4,c5⟩:=S0.o.cells;have hszN:=S0.o.lt;go_wp2_with fail
  try clear c0 c1 c2 c3 c4 c5
  try clear hszN
  have H:=jZ (S:=w.1.size+1) [[40]] S0.o.wr (by simp) (by simp) (by have:=HLEN.o;(try simp only[lL,lO,lZ]at this ⊢);omega);simp only[jT,List.map,List.length]at H;refine H.mono ?_;clear H;rintro e w3 ⟨rfl,hW3,hK3⟩;have S3:=hI (S0.o.call hW3 hK3);clear S0 hW3 hK3;have HC:=hI (hex lo B (acc++[[40]]) (.mk [117,110,97,114,121] x m ln co ks) _ _ ws2 S3.o.wr S3.o.li HF.o hc2 (by have:=HLEN.o;(try simp only[lL,lO,lZ]at this ⊢);omega));try simp only[qZ,tQ]at HC
  obtain⟨c0,c1,c2,c3,c4,c5⟩:=S3.o.cells;have hszN:=S3.o.lt;go_wp2_with fail
  try clear c0 c1 c2 c3 c4 c5
  try clear hszN
  refine(HC.o).mono ?_;rintro e w4 ⟨rfl,hW4,hK4⟩;have S4:=hI (S3.o.call hW4 hK4);clear S3 hW4 hK4 HC;obtain⟨c0,c1,c2,c3,c4,c5⟩:=S4.o.cells;have hszN:=S4.o.lt;go_wp2_with fail
  try clear c0 c1 c2 c3 c4 c5
  try clear hszN
  have H:=jZ (S:=w4.1.size) [[41]] S4.o.wr (by simp) (by simp) (by have:=HLEN.o;(try simp only[lL,lO,lZ]at this ⊢);omega);simp only[jT,List.map,List.length]at H;refine H.mono ?_;clear H;rintro e w5 ⟨rfl,hW5,hK5⟩;have S5:=hI (S4.o.call hW5 hK5);clear S4 hW5 hK5;go_wp2
  first | go_end0 | refine bodyPost_ret (v:=.tuple #[]) (by simp[results,results163,go_sem]) rfl ?_
  exact⟨rfl,by simpa[List.append_assoc,qY,qG,qC,qO,zB,zD,zX,qE,kIf,zS,qA,qV,qF,qD,qP,qW,qN,zW,zM,qL,qM,qT,zK,zL,qH,zA]using S5.o.wr,S5.o.kp⟩
 case false =>
 simp only[hq2,bO,bP,bF,if_false,reduceIte]at he;cases hq1:(k == [99,97,115,116]);case true =>
  simp only[hq1,bU,bV,bT,if_true,reduceIte]at he;obtain rfl:k=[99,97,115,116]:=by simpa using hq1
  clear hq1;obtain⟨ws1,wr1,hc1,hd1,hx1⟩:=qK he;subst hx1;clear he;injection hc1 with hc1;subst hc1;obtain⟨ws2,wr2,hc2,hd2,hx2⟩:=qK hd1;subst hx2;clear hd1;injection hd2 with hd2;subst hd2;obtain⟨q0,vc,hv,hvc,hvm⟩:=hL.shape;simp only[tQ,List.length]at hv;subst hv;have S0:=hI (Sw.start hW hL);have HF:=hI hF;have HFL:=hI hFL;have HLEN:=hI hlen;have hBw:=hW.lt;have HFX:=hI hFx;have HFN:=hI hFn;clear hW hF hL hFL hlen hFk hFx hFn;try simp only[qZ,qS,tQ]at *
  go_enter func163,ntmps163
  obtain⟨c0,c1,c2,c3,c4,c5⟩:=S0.o.cells;have hszN:=S0.o.lt;go_wp2_with fail
  try clear c0 c1 c2 c3 c4 c5
  try clear hszN
  have H:=jZ (S:=w.1.size+1) [[40]] S0.o.wr (by simp) (by simp) (by have:=HLEN.o;(try simp only[lL,lO,lZ]at this ⊢);omega);simp only[jT,List.map,List.length]at H;refine H.mono ?_;clear H;rintro e w3 ⟨rfl,hW3,hK3⟩;have S3:=hI (S0.o.call hW3 hK3);clear S0 hW3 hK3;have HC:=hI (hex lo B (acc++[[40]]) (.mk [99,97,115,116] x m ln co ks) _ _ ws2 S3.o.wr S3.o.li HF.o hc2 (by have:=HLEN.o;(try simp only[lL,lO,lZ]at this ⊢);omega));try simp only[qZ,tQ]at HC
  obtain⟨c0,c1,c2,c3,c4,c5⟩:=S3.o.cells;have hszN:=S3.o.lt;go_wp2_with fail
  try clear c0 c1 c2 c3 c4 c5
  try clear hszN
  refine(HC.o).mono ?_;rintro e w4 ⟨rfl,hW4,hK4⟩;have S4:=hI (S3.o.call hW4 hK4);clear S3 hW4 hK4 HC;obtain⟨c0,c1,c2,c3,c4,c5⟩:=S4.o.cells;have hszN:=S4.o.lt;go_wp2_with fail
  try clear c0 c1 c2 c3 c4 c5
  try clear hszN
  have H:=jZ (S:=w4.1.size) [[41]] S4.o.wr (by simp) (by simp) (by have:=HLEN.o;(try simp only[lL,lO,lZ]at this ⊢);omega);simp only[jT,List.map,List.length]at H;refine H.mono ?_;clear H;rintro e w5 ⟨rfl,hW5,hK5⟩;have S5:=hI (S4.o.call hW5 hK5);clear S4 hW5 hK5;go_wp2
  first | go_end0 | refine bodyPost_ret (v:=.tuple #[]) (by simp[results,results163,go_sem]) rfl ?_
  exact⟨rfl,by simpa[List.append_assoc,qY,qG,qC,qO,zB,zD,zX,qE,kIf,zS,qA,qV,qF,qD,qP,qW,qN,zW,zM,qL,qM,qT,zK,zL,qH,zA]using S5.o.wr,S5.o.kp⟩
 case false =>
 simp only[hq1,bO,bP,bF,if_false,reduceIte]at he;obtain⟨q0,vc,hv,hvc,hvm⟩:=hL.shape;simp only[tQ,List.length]at hv;subst hv;have S0:=hI (Sw.start hW hL);have HF:=hI hF;have HFL:=hI hFL;have HLEN:=hI hlen;have hBw:=hW.lt;have HFX:=hI hFx;have HFN:=hI hFn;clear hW hF hL hFL hlen hFk hFx hFn;try simp only[qZ,qS,tQ]at *
 go_enter func163,ntmps163
 have HC:=hI (hex lo B acc (.mk k x m ln co ks) _ _ ws S0.o.wr S0.o.li HF.o he (by have:=HLEN.o;(try simp only[lL,lO,lZ]at this ⊢);omega));try simp only[qZ,tQ]at HC
 obtain⟨c0,c1,c2,c3,c4,c5⟩:=S0.o.cells;have hszN:=S0.o.lt;go_wp2_with fail
 try clear c0 c1 c2 c3 c4 c5
 try clear hszN
 refine(HC.o).mono ?_;rintro e w1 ⟨rfl,hW1,hK1⟩;have S1:=hI (S0.o.call hW1 hK1);clear S0 hW1 hK1 HC;go_wp2
 first | go_end0 | refine bodyPost_ret (v:=.tuple #[]) (by simp[results,results163,go_sem]) rfl ?_
 exact⟨rfl,by simpa[List.append_assoc,qY,qG,qC,qO,zB,zD,zX,qE,kIf,zS,qA,qV,qF,qD,qP,qW,qN,zW,zM,qL,qM,qT,zK,zL,qH,zA]using S1.o.wr,S1.o.kp⟩
theorem qWy.cases{B:Nat}{d:Int}{w:World}{p:PR Unit}{e:Ending}{w':World}(h:qWy B d w p e w')(ho:p≠.out) :
 (∃ l,p=.ok () l/\e=.returned (.tuple #[])/\vP B l d w'/\w.grownBy w' (some B)) \/
 ∃ ln c code,p=.bad ln c code/\e=.panicked [{ v:=qXo ln c code,recovered:=false }]/\w.grownBy w' (some B):=by
 cases p with
 | ok t l=>exact .inl ⟨l,rfl,h.1,h.2.1,h.2.2⟩
 | bad ln c code=>exact .inr ⟨ln,c,code,rfl,h.1,h.2⟩
 | out=>exact absurd rfl ho
theorem qVF:∀ (xs:List (List UInt8)) (l:List Tok),jL xs l≠.out
 | [],l,h=>by simp[jL]at h
 | x :: xs,[],h=>by simp[jL,jV,PR.bind]at h
 | x :: xs,t :: r,h=>by
  rw[jL,jV]at h;split at h
  ·exact qVF xs r h
  ·simp[PR.bind]at h
theorem qPZ{B S:Nat}{l:List Tok}{d:Int}{w:World}(x:List UInt8)(h:vP B l d w)(hx:x≠[])(hS:w.1.size=S) :
 Calls prog 108 #[.pointer (some ⟨B,0,none⟩), .slice (some ⟨S,0,none⟩) 1 1] (w.alloc (.cells #[.string ⟨x.toArray⟩] 9)) fun e w' =>
  (∃ l',jL [x] l=.ok () l'/\e=.returned (.tuple #[])/\vP B l' d w'/\w.grownBy w' (some B)) \/
  ∃ ln c code,jL [x] l=.bad ln c code/\e=.panicked [{ v:=qXo ln c code,recovered:=false }]/\w.grownBy w' (some B):=by
 subst hS;refine(qPY B w.1.size 1 [x] l d (w.alloc (.cells #[.string ⟨x.toArray⟩] 9)) (h.below ((Below.refl _ _).alloc (Nat.le_refl _) _)) h.lt (fun i hi=>?_) (fun y hy=>by simp at hy;rw[hy];exact hx) (by simp) (by simp)).mono fun e w' hq=>?_
 ·obtain rfl:i=0:=by simpa using hi
  simp[go_sem]
 ·have hga:=World.grownBy_alloc w (.cells #[.string ⟨x.toArray⟩] 9) (some B);rcases hq.cases (qVF _ _)with⟨l',h1,h2,h3,h4⟩ | ⟨ln,c,code,h1,h2,h3⟩
  ·exact .inl ⟨l',h1,h2,h3,qR hga h4⟩
  ·exact .inr ⟨ln,c,code,h1,h2,qR hga h3⟩
theorem qQq{o:Oper}{a:Act}{K:Act->World->Prop}{Q:Exit->Act->World->Prop}{w:World}{lo lo1 S dd:Nat}{acc:List qQ}{t:qQ}{v u:Value}(s x:Operand)
 (ho:o.op=.call { callee:=.builtin .append,args:=#[s,x],argTypes:=#[55,55] }) (hd:o.dst=some dd) (hB:zC w lo acc v) (hK:zC w lo1 t.kids u) (hlo:lo<=lo1) (hv:∀ g,v.ownBlock=some g->g < lo1) (hl1:lo1<=w.1.size)
 (hs:a.eval s=v) (hS:w.1.size=S) (hx:a.eval x=.slice (some ⟨S,0,none⟩) 1 1) (hn:acc.length < 1000000)
 (h:∀ v' w',zC w' lo (acc++[t]) v'->(w.alloc (.cells (qS t u).toArray 57)).grownBy w' v.ownBlock->K (a.put (some dd) v') w') :
 o.wp prog a (w.alloc (.cells (qS t u).toArray 57)) K Q :=
 qPe s x ho hB hK hlo hv hl1 hs hS hx hn (fun v' w' h1 h2=>by rw[hd];exact h v' w' h1 h2)
theorem qZ8{w0 w6 w7:World}{B N:Nat}{l:List Tok}{d:Int}{k x:List UInt8}{n ln c:Int}{v v7:Value}{acc ts:List qQ}{o:Obj}(S:St w0 B l d w6)(Nn:Nd N k x n ln c v acc w6)(hw:w0.1.size < N)
 (hb7:zC w7 (N+1) ts v7) (hg7:(w6.alloc o).grownBy w7 v.ownBlock):St w0 B l d (w7.setCell ⟨N,5,none⟩ v7)/\Nd N k x n ln c v7 ts (w7.setCell ⟨N,5,none⟩ v7):=by
 have hlt:=Nn.bd.lt;refine⟨((S.alloc o).local hg7 (fun j e=>by have:=(hlt j e).1;omega)).setN hw _ _,?_,hb7.grown (jM _ _ _ _) (fun j e=>by cases e;exact .inl (Nat.lt_succ_self _))⟩;exact((Nn.nd.grown (World.grownBy_alloc w6 o none) (by simp)).grown hg7 (fun e=>by have:=(hlt N e.symm).1;omega)).set5 v7
def qXy(x:List UInt8):Nat:=if x == kIf then 141 else if x == qA then 142 else if x == qV then 143 else if x == qF || x == qD then 144 else if yG x then 145 else 146
theorem zT(fn:Fn)(first cap:Array Value)(w:World):(Instr.makeFunc fn first cap).run prog w=.ok (.func fn first cap) w:=rfl
theorem reader_at(B:Nat)(t:Tok)(r:List Tok)(d:Int)(w:World)(f:Nat)(hf:qXy t.text=f)(h:vP B (t :: r) d w) :
 Calls prog 127 #[.pointer (some ⟨B,0,none⟩)] w fun e w'=>e=.returned (.func (.func f) #[.pointer (some ⟨B,0,none⟩)] #[])/\Below w.1.size w w':=by
 have H:=hI (kY B t r d w h);have HF:=hI hf;clear hf;have hmf:=zT;have hft:=vS;go_enter func127,ntmps127
 go_wp2_with fail
 refine(H.o).mono ?_;rintro e w1 ⟨rfl,hb⟩;have hT:qWD w1:=by
  obtain⟨lo,T,o,c,h1⟩:=h.below hb;exact h1.tab.types
 have HI:=hI (qXC ⟨t.text.toArray⟩ w1 hT);clear h H hT;unfold vT xA;cases h1:(t.text == [105,102]);case true =>
  obtain rfl:f=141:=by rw[<-HF.o];simp only[qXy,kIf,qA,qV,qF,qD,h1];rfl
  go_wp2
  go_ret;exact⟨rfl,hb⟩
 case false =>
 cases h2:(t.text == [119,104,105,108,101]);case true =>
  obtain rfl:f=142:=by rw[<-HF.o];simp only[qXy,kIf,qA,qV,qF,qD,h1,h2];rfl
  go_wp2
  go_ret;exact⟨rfl,hb⟩
 case false =>
 cases h3:(t.text == [114,101,116,117,114,110]);case true =>
  obtain rfl:f=143:=by rw[<-HF.o];simp only[qXy,kIf,qA,qV,qF,qD,h1,h2,h3];rfl
  go_wp2
  go_ret;exact⟨rfl,hb⟩
 case false =>
 cases h4:(t.text == [97,115,115,101,114,116]);case true =>
  obtain rfl:f=144:=by rw[<-HF.o];simp only[qXy,kIf,qA,qV,qF,qD,h1,h2,h3,h4];rfl
  go_wp2
  go_ret;exact⟨rfl,hb⟩
 case false =>
 cases h5:(t.text == [97,115,115,117,109,101]);case true =>
  obtain rfl:f=144:=by rw[<-HF.o];simp only[qXy,kIf,qA,qV,qF,qD,h1,h2,h3,h4,h5];rfl
  go_wp2
  go_ret;exact⟨rfl,hb⟩
 case false =>
 go_wp2_with fail
 refine(HI.o).mono ?_;rintro e w2 ⟨rfl,rfl⟩;cases h6:yG t.text
 ·obtain rfl:f=146:=by rw[<-HF.o];simp only[qXy,kIf,qA,qV,qF,qD,h1,h2,h3,h4,h5,h6];rfl
  go_wp2
  go_ret;exact⟨rfl,hb⟩
 ·obtain rfl:f=145:=by rw[<-HF.o];simp only[qXy,kIf,qA,qV,qF,qD,h1,h2,h3,h4,h5,h6];rfl
  go_wp2
  go_ret;exact⟨rfl,hb⟩
end Go.Proofs.YtiajhekdhhhghaaGreatDoor
