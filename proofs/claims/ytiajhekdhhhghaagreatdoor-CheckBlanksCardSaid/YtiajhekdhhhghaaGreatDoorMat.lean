/- Walks. -/
import Derived.WalkKit
import Derived.WalkSpells
import Derived.WalkLawsBesides
import Derived.Below
import Derived.OwnWalk
import Derived.Lib.Hide
import Derived.Lib.Builder
import Derived.Lib.AppendStr
import Derived.Laws.Externs
import Derived.Test.YtiajhekdhhhghaaGreatDoorMaa
import Derived.Test.YtiajhekdhhhghaaGreatDoorMab
import Derived.Test.YtiajhekdhhhghaaGreatDoorMar
import Derived.Test.YtiajhekdhhhghaaGreatDoorMah
import Derived.Test.YtiajhekdhhhghaaGreatDoorMas
set_option linter.all false
set_option maxHeartbeats 8000000
set_option maxRecDepth 100000
namespace Go.Proofs.YtiajhekdhhhghaaGreatDoor
open Tryz Go.Proofs.Tryz
open Go Go.RowKit
theorem sizeB:(prog.info? 64).map (·.size)=some 2:=by kernel_rfl
theorem liesB:liesAt prog prog.depth 64 (2 / prog.cellsOf 64) 0 64 1=true:=by kernel_rfl
theorem infoB:(prog.info? 5).map (fun i=>(i.zero,i.size,i.bytes))=some (some (.int .u8 0),1,1):=by kernel_rfl
theorem check_used(b:Nat)(w:World)(h0:w.cell? ⟨b,0,none⟩=some (.pointer (some ⟨b,0,none⟩))) :
 Calls prog 46 #[.pointer (some ⟨b,0,none⟩)] w fun e w'=>e=.returned (.tuple #[])∧w=w':=by
 obtain⟨j,hj,_⟩:=Option.map_eq_some_iff.1 sizeB;go_enter func46,ntmps46
 go_wp2
 rw[Lib.run_neq_ptr_same w _ underlying61 hj];go_wp2
 go_end0;exact⟨rfl,rfl⟩
theorem qPo(b:Nat)(w:World)(h0:w.cell? ⟨b,0,none⟩=some (.pointer none))(hsh:w.shape? b=some (64,2))(hfz:w.frozen? ⟨b,0,none⟩=false) :
 Calls prog 46 #[.pointer (some ⟨b,0,none⟩)] w fun e w'=>e=.returned (.tuple #[])∧w'=w.setCell ⟨b,0,none⟩ (.pointer (some ⟨b,0,none⟩)):=by
 obtain⟨j,hj,hjs⟩:=Option.map_eq_some_iff.1 sizeB;go_enter func46,ntmps46
 go_wp2
 rw[Lib.run_to_unsafe w ⟨b,0,none⟩ underlying61 underlying124 hj (by rw[hjs];decide) hsh (Nat.zero_lt_succ 1)];simp only[Result.andThen];rw[Oper.upon_value];go_wp2
 rw[run_callFunc_extern func68 (by kernel_rfl) (by kernel_rfl) (by kernel_rfl) (e:=Extern.AbiNoEscape.same) (by kernel_rfl)];rw[Lib.run_noEscape];simp only[Result.andThen];rw[Oper.upon_value];go_wp2
 rw[Lib.run_from_unsafe w ⟨b,0,none⟩ underlying124 underlying61 hj hsh liesB];simp only[Result.andThen];rw[Oper.upon_value];go_wp2
 go_end0;exact⟨rfl,rfl⟩
def qZm(b:Nat)(w w':World):Prop:=∀ k cs T fr,k≠b→T≠5→w.1[k]? = some (.cells cs T fr)→w'.1[k]? = some (.cells cs T fr)
theorem qZm.refl(b:Nat)(w:World):qZm b w w:=fun _ _ _ _ _ _ h=>h
theorem qZm.trans{b:Nat}{u v w:World}(h:qZm b u v)(k:qZm b v w):qZm b u w:=fun i cs T fr h1 h2 h3=>k i cs T fr h1 h2 (h i cs T fr h1 h2 h3)
theorem qZm.setCell{b:Nat}{u v:World}(h:qZm b u v)(o:Nat)(x:Value):qZm b u (v.setCell ⟨b,o,none⟩ x):=fun i cs T fr h1 h2 h3=>by
 rw[hS v ⟨b,o,none⟩ x i h1];exact h i cs T fr h1 h2 h3
theorem qXX{w:World}{b:Nat}{o:Obj}(h:w.1[b]? = some o):b < w.1.size:=by
 rcases Nat.lt_or_ge b w.1.size with h' | h'
 ·exact h'
 ·simp[Array.getElem?_eq_none h']at h
theorem qZm.grown{b B n:Nat}{u v:World}{x:Value}{xs:List Value}(hown:u.ownsRow B 5 1 x n xs)(hg:u.grownBy v x.ownBlock):qZm b u v:=fun i cs T fr _ h2 h3=>by
 rw[hg.block i (qXX h3) (fun e=>Lib.ownBlock_ne hown h3 h2 e.symm)];exact h3
theorem qZm.alloc{b:Nat}{u v:World}(h:qZm b u v)(o:Obj):qZm b u (v.alloc o):=fun i cs T fr h1 h2 h3=>by
 have:=h i cs T fr h1 h2 h3;rw[Lib.alloc_old v o i (qXX this)];exact this
theorem qY0(B b:Nat)(bs:List Value)(w:World)(h:Lib.IsBuilder 64 5 B b bs w) :
 Calls prog 46 #[.pointer (some ⟨b,0,none⟩)] w fun e w'=>e=.returned (.tuple #[])∧Lib.BuilderAt 64 5 B b (.pointer (some ⟨b,0,none⟩)) bs w'∧Below B w w'∧qZm b w w':=by
 rcases h with h | h
 ·refine(qPo b w h.cell0 h.shape h.frozen0).mono ?_;rintro e w' ⟨rfl,rfl⟩;exact⟨rfl,h.used _,(Below.refl B w).setCell (p:=⟨b,0,none⟩) h.1 _,(qZm.refl b w).setCell 0 _⟩
 ·refine(check_used b w h.cell0).mono ?_;rintro e w' ⟨rfl,rfl⟩;exact⟨rfl,h,Below.refl B _,qZm.refl _ _⟩
theorem wbyte_any(B b:Nat)(bs:List Value)(c:Int)(w:World)(h:Lib.IsBuilder 64 5 B b bs w)(hlen:bs.length+1≤140737488355328)(hBw:B≤w.1.size) :
 Calls prog 23 #[.pointer (some ⟨b,0,none⟩), .int .u8 c] w fun e w'=>e=.returned .nilIface∧Lib.IsBuilder 64 5 B b (bs++[.int .u8 c]) w'∧Below B w w'∧qZm b w w':=by
 obtain⟨i0,hi,hz0,hz1,hz2⟩:=info_parts infoB;have HC:=hI (qY0 B b bs w h);clear h;go_enter func23,ntmps23
 go_wp2_with (go_at_call 46;refine(HC.o).mono ?_)
 rintro e w1 ⟨rfl,h1,hb1,hq1⟩;obtain⟨hB,v,hbk,hown,hne⟩:=h1;have c0:w1.cell? ⟨b,0,none⟩=some (.pointer (some ⟨b,0,none⟩)):=by rw[Lib.cell_of_heap hbk];rfl
 have c1:w1.cell? ⟨b,1,none⟩=some v:=by rw[Lib.cell_of_heap hbk];rfl
 have hz:=hb1.size;go_wp2_with (at_builtin;refine wpList_append_own _ rfl _ _ 62 rfl B 5 i0 (.int .u8 0) 1 1 underlying62 hi hz0 hz1 hz2 rfl (by decide) _ _ _ rfl (hown.alloc _) ⟨w1.1.size,0,none⟩ 1 1 [.int .u8 c] rfl rfl ?c1 ?c2 ?c3 ?c4 ?c5 ?_)
 case c1 =>
  intro j u hj;match j,hj with
  | 0,hj=>simp at hj;subst hj;simp[Addr.add]
 case c2=>intro u hu;simp at hu;subst hu;rfl
 case c3=>unfold maxLen;omega
 case c4=>omega
 case c5=>simp;omega
 intro v' w2 hown' hgrow _;have hlt:=qXX hbk;have hb2:w2.1[b]? = some (.cells #[.pointer (some ⟨b,0,none⟩),v] 64 (0,0)):=by
  rw[hgrow.block b (by simp;omega) (fun e=>hne e.symm),Lib.alloc_old w1 _ b hlt];exact hbk
 have d0:w2.cell? ⟨b,0,none⟩=some (.pointer (some ⟨b,0,none⟩)):=by rw[Lib.cell_of_heap hb2];rfl
 have d1:w2.cell? ⟨b,1,none⟩=some v:=by rw[Lib.cell_of_heap hb2];rfl
 have f1:w2.frozen? ⟨b,1,none⟩=false:=Lib.frozen_of_heap hb2 1;obtain⟨g,cap,rfl⟩:∃ g cap,v'=.slice (some ⟨g,0,none⟩) (bs.length+1) cap:=by
  rcases hown'.2 with⟨_,h0⟩ | ⟨g,cap,cur,hv,_⟩
  ·omega
  ·exact⟨g,cap,hv⟩
 go_wp2
 go_ret;refine⟨rfl, .inr ?_,?_,((hq1.alloc _).trans (qZm.grown (hown.alloc _) hgrow)).setCell 1 _⟩
 ·exact Lib.BuilderAt.put (T:=64) (e:=5) hB hb2 (bs':=bs++[.int .u8 c]) (by simpa using hown') (by decide)
 ·exact((hb1.alloc (by omega) _).grown hgrow (by simp;omega) (fun k hk=>(hown.lt k hk).1)).setCell (p:=⟨b,1,none⟩) hB _
theorem qWh(B b:Nat)(bs:List Value)(s:ByteArray)(w:World)(h:Lib.IsBuilder 64 5 B b bs w)(hlen:bs.length+s.size≤140737488355328)(hBw:B≤w.1.size) :
 Calls prog 24 #[.pointer (some ⟨b,0,none⟩), .string s] w fun e w'=>e=.returned (.tuple #[.int .i64 s.size, .nilIface])∧Lib.IsBuilder 64 5 B b (bs++Lib.strCells s) w'∧Below B w w':=by
 obtain⟨i0,hi,hz0,hz1,hz2⟩:=info_parts infoB;have HC:=hI (qY0 B b bs w h);clear h;go_enter func24,ntmps24
 go_wp2_with (go_at_call 46;refine(HC.o).mono ?_)
 rintro e w1 ⟨rfl,h1,hb1,_⟩;obtain⟨hB,v,hbk,hown,hne⟩:=h1;have c0:w1.cell? ⟨b,0,none⟩=some (.pointer (some ⟨b,0,none⟩)):=by rw[Lib.cell_of_heap hbk];rfl
 have c1:w1.cell? ⟨b,1,none⟩=some v:=by rw[Lib.cell_of_heap hbk];rfl
 have hz:=hb1.size;go_wp2_with (at_builtin;refine Lib.wpList_append_own_string _ rfl _ _ 62 9 rfl B 5 i0 underlying62 underlying9 hi hz0 hz1 hz2 _ _ _ rfl hown s rfl ?c3 ?c4 ?c5 ?_)
 case c3=>unfold maxLen;omega
 case c4=>omega
 case c5=>omega
 intro v' w2 hown' hgrow _;have hlt:=qXX hbk;have hb2:w2.1[b]? = some (.cells #[.pointer (some ⟨b,0,none⟩),v] 64 (0,0)):=by
  rw[hgrow.block b hlt (fun e=>hne e.symm)];exact hbk
 have d0:w2.cell? ⟨b,0,none⟩=some (.pointer (some ⟨b,0,none⟩)):=by rw[Lib.cell_of_heap hb2];rfl
 have d1:w2.cell? ⟨b,1,none⟩=some v:=by rw[Lib.cell_of_heap hb2];rfl
 have f1:w2.frozen? ⟨b,1,none⟩=false:=Lib.frozen_of_heap hb2 1;obtain⟨ao,n',cap,rfl⟩:∃ ao n' cap,v'=.slice ao n' cap:=by
  rcases hown'.2 with⟨hv,_⟩ | ⟨g,cap,cur,hv,_⟩
  ·exact⟨_,_,_,hv⟩
  ·exact⟨_,_,_,hv⟩
 go_wp2
 go_ret2
 refine⟨rfl, .inr ?_,?_⟩
 ·exact Lib.BuilderAt.put (T:=64) (e:=5) hB hb2 (bs':=bs++Lib.strCells s) (by simpa[Lib.strCells_length]using hown') (by decide)
 ·exact(hb1.grown hgrow (by omega) (fun k hk=>(hown.lt k hk).1)).setCell (p:=⟨b,1,none⟩) hB _
theorem qXQ{T e:TypeId}{B b:Nat}{bs:List Value}{w:World}(h:Lib.IsBuilder T e B b bs w)(o:Obj):Lib.IsBuilder T e B b bs (w.alloc o):=by
 have one:∀ p,Lib.BuilderAt T e B b p bs w→Lib.BuilderAt T e B b p bs (w.alloc o):=fun p h=>by
  obtain⟨hB,v,hb,hown,hne⟩:=h;exact⟨hB,v,by rw[Lib.alloc_old w o b (qXX hb)];exact hb,hown.alloc o,hne⟩
 rcases h with h | h
 ·exact .inl (one _ h)
 ·exact .inr (one _ h)
def shF:Nat→List Tok→List UInt8
 | _,[]=>[]
 | k,t :: r=>(if t.kind=3 then []else if k=0 then t.text else 32 :: t.text)++shF (k+1) r
theorem shF_R(l:List Tok)(k:Nat):shF (k+1) l=qZ5 (l.map Tok.bare):=by
 induction l generalizing k with
 | nil=>rfl
 | cons t r ih=>rw[shF,List.map_cons,qZ5,ih,if_neg (show ¬k+1=0 by omega)];rfl
theorem shF_L(l:List Tok):shF 0 l=qYl (l.map Tok.bare):=by
 cases l with
 | nil=>rfl
 | cons t r=>rw[shF,List.map_cons,qYl,shF_R,if_pos rfl];rfl
theorem shF_step{acc:List UInt8}{l:List Tok}{k:Nat}{X:List UInt8}(hk:k < l.length)(h:acc++shF k (l.drop k)=X) :
 acc++((if l[k].kind=3 then []else if k=0 then l[k].text else 32 :: l[k].text)++shF (k+1) (l.drop (k+1)))=X:=by
 rw[List.drop_eq_getElem_cons hk,shF]at h;exact h
theorem qYZ(a b:List UInt8):Lib.byteCells a++Lib.strCells ⟨b.toArray⟩=Lib.byteCells (a++b):=by
 simp[Lib.byteCells,Lib.strCells]
theorem qPl(a:List UInt8):Lib.byteCells a++[.int .u8 32]=Lib.byteCells (a++[32]):=by
 simp[Lib.byteCells]
theorem qVw(a:List UInt8):(Lib.byteCells a).length=a.length:=by simp[Lib.byteCells]
theorem qPh(l:List UInt8):(⟨l.toArray⟩:ByteArray).size=l.length:=by show l.toArray.size=_;simp
def LShowRel(l:List Tok)(w:World)(X:List UInt8)(i:Value)(wr:World):Prop :=
 ∃ (k:Nat) (acc:List UInt8),k≤l.length∧i=.int .i64 k∧acc++shF k (l.drop k)=X∧Lib.IsBuilder 64 5 w.1.size w.1.size (Lib.byteCells acc) wr∧Below w.1.size w wr
theorem lshow_any(g cap:Nat)(l:List Tok)(w:World)(hrow:qYR g l w)(hg:g < w.1.size)(hl:l.length≤100000)(hx:(shF 0 l).length≤1000000) :
 Calls prog 10 #[.slice (some ⟨g,0,none⟩) l.length cap] w fun e w'=>e=.returned (.string ⟨(shF 0 l).toArray⟩)∧Below w.1.size w w':=by
 generalize hX:shF 0 l=X at *;have HX:=hI hX;have HROW:=hI hrow;clear hX hrow;go_enter func10,ntmps10
 go_wp2
 go_loopw [8] (fun i wr=>LShowRel l w X i wr) (fun i _=>l.length - (intOf i).toNat)
 case atStart=>exact⟨0,[],Nat.zero_le _,rfl,by simpa using HX.o,Lib.fresh_isBuilder 64 5 w,(Below.refl _ _).alloc (Nat.le_refl _) _⟩
 case round =>
  obtain⟨k,acc,hk,rfl,hacc,hbu,hb⟩:=hrel;have HB:=hI hbu;have hz:=hb.size;have hzb:w.1.size < wr.1.size:=hbu.elim (fun h=>h.lt) (fun h=>h.lt);by_cases hlt:k < l.length
  ·have ht:=(HROW.o k hlt).below hb hg;have hst:=hI (shF_step hlt hacc);generalize l[k]=t at *;have c0:=ht.fk;have c1:=ht.ft;have c2:=ht.fm;have c3:=ht.fl;have c4:=ht.fc;clear hbu hacc ht;by_cases h3:t.kind=3
   ·have h3':(t.kind == 3)=true:=by simpa using h3
    have H3:=hI h3;clear h3;go_wp2_with fail
    go_roundw
    case rel =>
     have:=hst.o;rw[if_pos H3.o,lN]at this;exact⟨k+1,acc,by omega,by go_num,this,qXQ HB.o _,hb.alloc (by omega) _⟩
    case measure=>simp[intOf];omega
   ·have h3':(t.kind == 3)=false:=by simpa using h3
    have H3:=hI h3;clear h3;have hle:=congrArg List.length hst.o;rw[if_neg H3.o]at hle;by_cases hk0:k=0
    ·subst hk0;rw[if_pos rfl,lL,lL]at hle;have HW:=hI (fun o=>qWh w.1.size w.1.size (Lib.byteCells acc) ⟨t.text.toArray⟩ (wr.alloc o) (qXQ HB.o o) (by rw[qVw,qPh];omega) (by simp;omega));have HLE:=hI hle;clear hle;go_wp2_with (go_at_call 24;refine(HW.o _).mono ?_;rintro e w2 ⟨rfl,hbu2,hb2⟩)
     go_roundw
     case rel =>
      have:=hst.o;rw[if_neg H3.o,if_pos trivial,←List.append_assoc]at this;exact⟨1,acc++t.text,by omega,rfl,this,by rw[←qYZ];exact hbu2,(hb.alloc (by omega) _).trans hb2⟩
     case measure=>simp[intOf];omega
    ·rw[if_neg hk0,lL,lL,lO]at hle;have hk0':(0:Int) < (k:Int):=by omega
     have HW:=hI (fun o=>wbyte_any w.1.size w.1.size (Lib.byteCells acc) 32 (wr.alloc o) (qXQ HB.o o) (by rw[qVw];omega) (by simp;omega));have HV:=hI (fun w2 (h:Lib.IsBuilder 64 5 w.1.size w.1.size (Lib.byteCells acc++[.int .u8 32]) w2) (hz2:w.1.size≤w2.1.size)=>qWh w.1.size w.1.size _ ⟨t.text.toArray⟩ w2 h (by rw[lL,qVw,qPh,List.length_singleton];omega) hz2);have HLE:=hI hle;clear hle;go_wp2_with fail
     refine(HW.o _).mono ?_;rintro e w2 ⟨rfl,hbu2,hb2,hq2⟩;have hz2:w.1.size≤w2.1.size:=by have:=hb2.size;simp at this;omega
     have d1:w2.cell? ⟨wr.1.size,1,none⟩=some (.string ⟨t.text.toArray⟩):=by
      rw[Lib.cell_of_heap (hq2 wr.1.size _ 49 (0,0) (by omega) (by decide) (heap_alloc_new wr _))];rfl
     go_wp2_with (go_at_call 24;refine(HV.o _ hbu2 hz2).mono ?_;rintro e w3 ⟨rfl,hbu3,hb3⟩)
     go_roundw
     case rel =>
      have:=hst.o;rw[if_neg H3.o,if_neg hk0]at this;refine⟨k+1,acc++[32]++t.text,by omega,by go_num,?_,by rw[←qYZ,←qPl];exact hbu3,((hb.alloc (by omega) _).trans hb2).trans hb3⟩;rw[←this];simp
     case measure=>simp[intOf];omega
  ·obtain rfl:k=l.length:=by omega
   have HW:=hI (Tryz.Builder_String_any w.1.size w.1.size acc wr HB.o hz);have e:acc=X:=by
    have:=hacc;rw[List.drop_of_length_le (Nat.le_refl _),shF,lA]at this;exact this
   subst e;clear hbu hacc;go_wp2_with (go_at_call 25;refine(HW.o).mono ?_;rintro e w2 ⟨rfl,hb2⟩)
   go_ret;exact⟨rfl,hb.trans hb2⟩
theorem lex_len(n:Nat)(l:List UInt8)(ln c:Int)(ts:List Tok)(hn:l.length≤n)(h:qQD l ln c=.ok ts):0 < ts.length∧ts.length≤l.length+1∧(qZ5 (ts.map Tok.bare)).length≤2 * l.length:=by
 induction n generalizing l ln c ts with
 | zero =>
  obtain rfl:l=[]:=List.length_eq_zero_iff.mp (by omega);have e:qQD [] ln c=.ok [⟨3,[],0,ln,c⟩]:=rfl;rw[e]at h;cases h;exact⟨by simp,by simp,by simp[qZ5,Tok.bare]⟩
 | succ n ih =>
  rw[qJe]at h;have hls:(vO l ln c).1.length≤l.length:=qZT l.length l ln c;generalize vO l ln c=s at *;by_cases h1:s.1=[]
  ·rw[if_pos h1]at h;cases h;exact⟨by simp,by simp,by simp[qZ5,Tok.bare]⟩
  ·rw[if_neg h1]at h;by_cases he:wK s.1=0
   ·rw[if_pos he]at h;have hp:=qQW he;have hle:=wG s.1;cases hr:qQD (s.1.drop (zZ s.1)) (kU (s.1.take (zZ s.1)) s.2.1 s.2.2).1 (kU (s.1.take (zZ s.1)) s.2.1 s.2.2).2 with
    | bad a b c=>rw[hr]at h;cases h
    | ok ts' =>
     rw[hr]at h;cases h;have hd:(s.1.drop (zZ s.1)).length=s.1.length - zZ s.1:=List.length_drop;obtain⟨a1,a2,a3⟩:=ih _ _ _ ts' (by omega) hr;refine⟨by simp,by simp;omega,?_⟩;have hk:(qJX s.1 s.2.1 s.2.2).bare.kind=vA s.1:=rfl;have ht:(qJX s.1 s.2.1 s.2.2).bare.text=s.1.take (zZ s.1):=rfl;rw[List.map_cons,qZ5,if_neg (by rw[hk];exact qVA _),ht,lL,lO,List.length_take];omega
   ·rw[if_neg he]at h;cases h
theorem qPN(n:Nat)(l:List UInt8)(ln c:Int){a b code:Int}(hn:l.length≤n)(h:qQD l ln c=.bad a b code):code=20∨code=21:=by
 induction n generalizing l ln c with
 | zero =>
  obtain rfl:l=[]:=List.length_eq_zero_iff.mp (by omega);have e:qQD [] ln c=.ok [⟨3,[],0,ln,c⟩]:=rfl;rw[e]at h;cases h
 | succ n ih =>
  rw[qJe]at h;have hls:(vO l ln c).1.length≤l.length:=qZT l.length l ln c;generalize vO l ln c=s at *;by_cases h1:s.1=[]
  ·rw[if_pos h1]at h;cases h
  ·rw[if_neg h1]at h;by_cases he:wK s.1=0
   ·rw[if_pos he]at h;have hp:=qQW he;have hle:=wG s.1;have hd:(s.1.drop (zZ s.1)).length=s.1.length - zZ s.1:=List.length_drop;cases hr:qQD (s.1.drop (zZ s.1)) (kU (s.1.take (zZ s.1)) s.2.1 s.2.2).1 (kU (s.1.take (zZ s.1)) s.2.1 s.2.2).2 with
    | ok ts'=>rw[hr]at h;cases h
    | bad a' b' c' =>
     rw[hr]at h;cases h;exact ih _ _ _ (by omega) hr
   ·rw[if_neg he]at h;cases h;exact qU7 he
theorem showL_le(l:List qWi):(qYl l).length≤(qZ5 l).length:=by
 cases l with
 | nil=>exact Nat.le_refl _
 | cons t r =>
  rw[qYl,qZ5];by_cases h:t.kind=3
  ·rw[if_pos h,if_pos h];exact Nat.le_refl _
  ·rw[if_neg h,if_neg h];simp
theorem bare_ok{x:Res}{ts:List qWi}(h:x.bare=some ts):∃ l,x=.ok l∧l.map Tok.bare=ts:=by
 cases x with
 | bad a b c=>cases h
 | ok l=>exact⟨l,rfl,Option.some.inj h⟩
theorem back_math{l:List UInt8}{ts:List Tok}(h:qQD l 1 1=.ok ts):∃ us,qQD (shF 0 ts) 1 1=.ok us∧ts.map Tok.bare=us.map Tok.bare:=by
 have hb:qZp l=some (ts.map Tok.bare):=by unfold qZp;rw[h];rfl
 obtain⟨_,_,h3⟩:=shown _ l (Nat.le_refl _) _ hb;rw[←shF_L]at h3;obtain⟨us,h4,h5⟩:=bare_ok (x:=qQD (shF 0 ts) 1 1) h3;exact⟨us,h4,h5.symm⟩
theorem qP4{s:List UInt8}{ts:List Tok}(h:qQD s 1 1=.ok ts)(hs:s.length≤65536):qZ4 s=xW 200000 ts:=by rw[qZ4,if_pos hs,qJq,h]
section
variable {D:Prop} {m:Nat}
end
section
variable {D:Prop}
end
theorem qUu:∀ (i:Nat) (l:List UInt8),0 < i→qQ0 i (l.take (xQ qQZ l))=true
 | _,[],_=>rfl
 | i,b :: r,hi=>by
  rw[xQ];by_cases h:qQZ (b.toNat:Int)=true
  ·rw[if_pos h,List.take_succ_cons,qQ0,qUu (i+1) r (by omega),bW];unfold qQZ at h;simp only[Bool.or_eq_true,decide_eq_true_eq]at h;rcases h with h | h
   ·rw[h];rfl
   ·have:qPv (b.toNat:Int)=true:=by
     unfold qQa at h;unfold qPv;simp only[decide_eq_true_eq];by_cases h1:(48:Int)≤b.toNat∧(b.toNat:Int)≤57
     ·exact h1
     ·rw[if_neg h1]at h;by_cases h2:(97:Int)≤b.toNat∧(b.toNat:Int)≤102
      ·rw[if_pos h2]at h;omega
      ·rw[if_neg h2]at h;by_cases h3:(65:Int)≤b.toNat∧(b.toNat:Int)≤70
       ·rw[if_pos h3]at h;omega
       ·rw[if_neg h3]at h;omega
    rw[this,show(i == 0)=false by simp;omega];simp
  ·rw[if_neg h];rfl
theorem qUm{base:Int}(hb:base=10∨base=16):∀ (l:List UInt8) (acc v:Int),xJ base acc l=some v→0≤acc→acc≤18446744073709551615 →
 0≤v∧v≤18446744073709551615∧v < (acc+1) * ((16 ^ l.length:Nat):Int)
 | [],acc,v,h,h0,h1=>by
  rw[xJ]at h;cases h;refine⟨h0,h1,?_⟩;show acc < (acc+1) * ((16 ^ 0:Nat):Int)
  simp;omega
 | b :: r,acc,v,h,h0,h1=>by
  rw[xJ]at h;by_cases hc:base≤qQa (b.toNat:Int)∨(18446744073709551615 - qQa (b.toNat:Int)) / base < acc
  ·rw[if_pos hc]at h;cases h
  ·rw[if_neg hc]at h;rw[not_or]at hc;have hd:=qWP (b.toNat:Int);generalize qQa (b.toNat:Int)=d at *;have hm:0≤acc * base+d∧acc * base+d≤18446744073709551615∧acc * base+d+1≤(acc+1) * 16:=by
    rcases hb with rfl | rfl <;> omega
   obtain⟨a1,a2,a3⟩:=qUm hb r _ v h hm.1 hm.2.1;refine⟨a1,a2,Int.lt_of_lt_of_le a3 ?_⟩;rw[lO,Nat.pow_succ,Nat.mul_comm,Int.natCast_mul,←Int.mul_assoc];exact Int.mul_le_mul_of_nonneg_right hm.2.2 (Int.natCast_nonneg _)
theorem qY3:∀ (k u:Nat),u < 10 ^ k→Lib.nDigits u≤k+1 - (if u=0 then 0 else 1)
 | 0,u,h=>by
  have:u=0:=by simpa using h
  subst this;rw[Lib.nDigits_small (by omega)];simp
 | k+1,u,h=>by
  by_cases hu:u < 10
  ·rw[Lib.nDigits_small hu];split <;> omega
  ·rw[Lib.nDigits_big hu];have:=qY3 k (u / 10) (by rw[Nat.pow_succ]at h;omega);rw[if_neg (by omega)]at this;rw[if_neg (by omega)];omega
theorem dec_len{u k:Nat}(h:u < 10 ^ k)(hk:1≤k):(Lib.decDigits u).length≤k:=by
 rw[Lib.decDigits_length];have:=qY3 k u h;by_cases hu:u=0
 ·subst hu;rw[Lib.nDigits_small (by omega)];exact hk
 ·rw[if_neg hu]at this;omega
theorem pow_16_10(k:Nat):16 ^ k≤10 ^ (2 * k):=by
 rw[Nat.pow_mul];exact Nat.pow_le_pow_left (by omega) k
theorem numL_ok{l:List UInt8}{v:Int}(h:qJg l=some v):0≤v∧v < 18446744073709551616∧(Lib.decDigits v.toNat).length≤2 * l.length:=by
 have key:∀ (base:Int) (x:List UInt8),(base=10∨base=16)→xJ base 0 x=some v→x≠[]→x.length≤l.length→0≤v∧v < 18446744073709551616∧(Lib.decDigits v.toNat).length≤2 * l.length:=by
  intro base x hb hx hne hle;obtain⟨a1,a2,a3⟩:=qUm hb x 0 v hx (by omega) (by omega);have h4:v.toNat < 16 ^ x.length:=by omega
  have h5:=pow_16_10 x.length;have hp:0 < x.length:=List.length_pos_iff.2 hne;have h6:=dec_len (u:=v.toNat) (k:=2 * x.length) (by omega) (by omega);exact⟨a1,by omega,by omega⟩
 unfold qJg at h;by_cases hh:Lib.hasPrefix l qWl=true
 ·rw[if_pos hh]at h;by_cases he:l.drop 2=[]
  ·rw[if_pos he]at h;cases h
  ·rw[if_neg he]at h;exact key 16 _ (.inr rfl) h he (by rw[List.length_drop];omega)
 ·rw[if_neg hh]at h;by_cases he:l=[]
  ·rw[if_pos he]at h;cases h
  ·rw[if_neg he]at h;exact key 10 _ (.inl rfl) h he (Nat.le_refl _)
theorem tok_ok{l:List UInt8}(ln c:Int)(h:wK l=0)(hl:l.length≤65536):qWC (qJX l ln c):=by
 have hp:=qQW h;have hle:=wG l;have hlen:(l.take (zZ l)).length=zZ l:=by rw[List.length_take];omega
 refine⟨fun hk=>?_,fun hk=>?_,?_,fun _=>?_⟩
 ·show qQ0 0 (l.take (zZ l))=true
  cases l with
  | nil=>rfl
  | cons b r =>
   have hk':vA (b :: r)=0:=hk;have hb:qZx (b.toNat:Int)=true:=by
    cases hb:qZx (b.toNat:Int)with
    | true=>rfl
    | false =>
     rw[vA,hb]at hk';by_cases hd:qQa (b.toNat:Int) < 10 <;> simp[hd]at hk'
   rw[zZ,if_pos hb,xQ,if_pos (by unfold qQZ;rw[hb];rfl),List.take_succ_cons,qQ0,hb,qUu 1 r (by omega)];rfl
 ·have hk':vA l=1:=hk;unfold wK at h;rw[if_neg (by omega),if_pos hk']at h;cases hn:qJg (l.take (zZ l))with
  | none=>rw[hn]at h;simp at h
  | some v =>
   have e:(qJX l ln c).num=v:=by show(if vA l=1 then(qJg (l.take (zZ l))).getD 0 else 0)=v;rw[if_pos hk',hn];rfl
   rw[e];exact numL_ok hn
 ·show(l.take (zZ l)).length≤65536
  omega
 ·show l.take (zZ l)≠[]
  intro e;rw[e]at hlen;simp at hlen;omega
theorem lex_toks(n:Nat)(l:List UInt8)(ln c:Int)(ts:List Tok)(hn:l.length≤n)(hs:l.length≤65536)(h:qQD l ln c=.ok ts):(∀ t∈ts,qWC t)∧ch ts≤l.length:=by
 have hend:∀ (ln c:Int) (t:Tok),t∈[(⟨3,[],0,ln,c⟩:Tok)]→qWC t:=fun ln c t ht=>by
  obtain rfl:t=⟨3,[],0,ln,c⟩:=by simpa using ht
  exact⟨fun h=>absurd (show(3:Int)=0 from h) (by decide),fun h=>absurd (show(3:Int)=1 from h) (by decide),by simp,fun h=>absurd rfl h⟩
 induction n generalizing l ln c ts with
 | zero =>
  obtain rfl:l=[]:=List.length_eq_zero_iff.mp (by omega);have e:qQD [] ln c=.ok [⟨3,[],0,ln,c⟩]:=rfl;rw[e]at h;cases h;exact⟨hend _ _,by simp[ch]⟩
 | succ n ih =>
  rw[qJe]at h;have hls:(vO l ln c).1.length≤l.length:=qZT l.length l ln c;generalize vO l ln c=s at *;by_cases h1:s.1=[]
  ·rw[if_pos h1]at h;cases h;exact⟨hend _ _,by simp[ch]⟩
  ·rw[if_neg h1]at h;by_cases he:wK s.1=0
   ·rw[if_pos he]at h;have hp:=qQW he;have hle:=wG s.1;cases hr:qQD (s.1.drop (zZ s.1)) (kU (s.1.take (zZ s.1)) s.2.1 s.2.2).1 (kU (s.1.take (zZ s.1)) s.2.1 s.2.2).2 with
    | bad a b c=>rw[hr]at h;cases h
    | ok ts' =>
     rw[hr]at h;cases h;have hd:(s.1.drop (zZ s.1)).length=s.1.length - zZ s.1:=List.length_drop;obtain⟨a1,a2⟩:=ih _ _ _ ts' (by omega) (by omega) hr;refine⟨fun t ht=>?_,?_⟩
     ·rcases List.mem_cons.1 ht with rfl | ht
      ·exact tok_ok _ _ he (by omega)
      ·exact a1 t ht
     ·have ht:(qJX s.1 s.2.1 s.2.2).text=s.1.take (zZ s.1):=rfl;rw[ch,ht,List.length_take];omega
   ·rw[if_neg he]at h;cases h
theorem qJB{void:Bool}{t:qQ}{ws:List (List UInt8)}(h:vY void t=some ws):∃ u r,t.kids=u :: r∧u.kind=zB∧u.num=0:=by
 unfold vY at h;split at h
 ·rename_i u r hk;obtain⟨h1,_⟩:=zN h;simp only[bE,beq_iff_eq]at h1;exact⟨u,r,hk,h1.1.1,h1.1.2.1⟩
 ·cases h
theorem qPV{t:qQ}{ws:List (List UInt8)}(h:qZ1 t=some ws):t.kids≠[]:=by
 obtain⟨_,h1⟩:=zN h;obtain⟨u,r,hk,_⟩:=qJB h1;rw[hk];simp
theorem lastT_cons(k x:List UInt8)(m ln co:Int)(u:qQ)(ps:List qQ)(b:qQ):yE (.mk k x m ln co (u :: (ps++[b])))=b:=by
 unfold yE;rw[show(qQ.mk k x m ln co (u :: (ps++[b]))).kids=(u :: ps)++[b]from rfl,List.getLastD_eq_getLast?,List.getLast?_concat];rfl
theorem qV3{n:Nat}{t:qQ}{ws:List (List UInt8)}(h:kA (qZB n) t=some ws)(hn:qZl t)(hl:ws.length≤900000):∃ u ps z,t.kids=u :: (ps++[z])∧(∀ a∈ps,a.text.length≤1000000∧a.kids≠[])∧qUz (yE t):=by
 obtain⟨k,x,m,ln,co,ks⟩:=t;have hN:=qQx hn;rcases ks with _ | ⟨u,_ | ⟨v,r⟩⟩
 ·simp[kA,qQ.kids]at h
 ·simp[kA,qQ.kids]at h
 ·have he:v :: r=(v :: r).dropLast++[(v :: r).getLast (List.cons_ne_nil v r)]:=(List.dropLast_concat_getLast _).symm;generalize (v :: r).dropLast=ps at he;generalize (v :: r).getLast (List.cons_ne_nil v r)=b at he;rw[he]at h hN ⊢;rw[fn_mk]at h;obtain⟨_,h1⟩:=zN h;obtain⟨_,y1,_,h2,rfl⟩:=qK h1;obtain⟨_,y2,_,h3,rfl⟩:=qK h2;obtain⟨y3,y4,h4,h5,rfl⟩:=qK h3;obtain⟨_,y5,_,h6,rfl⟩:=qK h5;simp only[lL]at hl;have hNe:=hN.2.2.2.2.2.mem;refine⟨u,ps,b,rfl,fun a ha=>?_,?_⟩
  ·obtain⟨w,hw⟩:=qKC h4 a ha;have hNa:=hNe a (by simp[ha]);refine⟨?_,qPV hw⟩;obtain⟨ak,ax,am,al,ac,aks⟩:=a;exact(qQx hNa).2.1
  ·rw[lastT_cons];exact qYd n b y5 h6 (by omega) (hNe b (by simp))
theorem global_of{t:qQ}{ws:List (List UInt8)}(h:qXa t=some ws)(hn:qZl t):(∃ u r,t.kids=u :: r)∧(((yE t).kind == zD)=false→(yE t).num=0)∧0≤(yE t).num∧(yE t).num < 18446744073709551616:=by
 obtain⟨k,x,m,ln,co,ks⟩:=t;have hN:=qQx hn;have hNe:=hN.2.2.2.2.2.mem;have hb:∀ u∈ks,0≤u.num∧u.num < 18446744073709551616:=fun u hu=>by
  have:=hNe u hu;obtain⟨uk,ux,um,ul,uc,uks⟩:=u;have:=qQx this;exact⟨this.2.2.1,this.2.2.2.1⟩
 rw[qKF]at h;obtain⟨_,h1⟩:=zN h;rcases ks with _ | ⟨u,_ | ⟨m',_ | ⟨z,r⟩⟩⟩
 ·cases h1
 ·obtain⟨y,_,h2,_⟩:=qK h1;obtain⟨u',r,hk',_,h3⟩:=qJB h2;simp only[qQ.kids,List.cons.injEq]at hk';obtain⟨rfl,rfl⟩:=hk';exact⟨⟨u,[],rfl⟩,fun _=>h3,hb u (by simp)⟩
 ·obtain⟨y,_,h2,_⟩:=qK h1;obtain⟨_,y2,_,h3,_⟩:=qK h2;obtain⟨_,y3,_,h4,_⟩:=qK h3;obtain⟨y4,_,h5,_⟩:=qK h4;obtain⟨h6,_⟩:=zN h5;simp only[bE]at h6;refine⟨⟨u,[m'],rfl⟩,fun e=>?_,hb m' (by simp)⟩;rw[show yE (.mk k x m ln co [u,m'])=m' from rfl,h6.1]at e;cases e
 ·cases h1
theorem pg_of{n:Nat}{t:qQ}{ws:List (List UInt8)}(h:qQO n t=some ws)(hn:qZl t)(hl:ws.length≤900000):PgOk t:=by
 obtain⟨k,x,m,ln,co,ks⟩:=t;have hN:=qQx hn;have hNe:=hN.2.2.2.2.2.mem;rw[qV9]at h;obtain⟨_,h1⟩:=zN h;have hk:∀ a∈ks,a.text.length≤1000000∧a.kids.length≤1000000:=fun a ha=>by
  have:=hNe a ha;obtain⟨ak,ax,am,al,ac,aks⟩:=a;have:=qQx this;exact⟨this.2.1,this.2.2.2.2.1⟩
 refine⟨hN.2.2.2.2.1,fun a ha=>?_,fun a ha hf=>?_⟩
 ·obtain⟨w,hw,hwl⟩:=qJM h1 a ha;refine⟨(hk a ha).1,(hk a ha).2,fun hf=>?_,fun hf=>?_⟩
  ·rw[hf]at hw;obtain⟨u,ps,z,e1,e2,_⟩:=qV3 hw (hNe a ha) (by omega);exact⟨u,ps,z,e1,e2⟩
  ·rw[hf]at hw;exact global_of hw (hNe a ha)
 ·obtain⟨w,hw,hwl⟩:=qJM h1 a ha;rw[hf]at hw;obtain⟨u,ps,z,e1,_,e3⟩:=qV3 hw (hNe a ha) (by omega);exact⟨by rw[e1];simp,(hk a ha).2,e3⟩
end Go.Proofs.YtiajhekdhhhghaaGreatDoor
namespace Go.Proofs.YtiajhekdhhhghaaGreatDoor.NZ
open Go Go.RowKit
def zJ{α:Type}(S:α→α→Prop):PR α→PR α→Prop
 | .ok a l, .ok b l'=>S a b∧Al l l'
 | .bad _ _ c, .bad _ _ c'=>c=c'∧c≠0
 | .out, .out=>True
 | _,_=>False
section
variable {α β:Type} {S:α→α→Prop} {T:β→β→Prop}
theorem zJ.ok{a b:α}{l l':List Tok}(h:S a b)(h':Al l l'):zJ S (.ok a l) (.ok b l'):=⟨h,h'⟩
theorem zJ.bind{p p':PR α}{f f':α→List Tok→PR β}(h:zJ S p p')(hf:∀ a b l l',S a b→Al l l'→zJ T (f a l) (f' b l')):zJ T (p.bind f) (p'.bind f'):=by
 cases p with
 | ok a l =>
  cases p' with
  | ok b l'=>exact hf a b l l' h.1 h.2
  | bad _ _ _=>exact h.elim
  | out=>exact h.elim
 | bad x y c =>
  cases p' with
  | ok b l'=>exact h.elim
  | bad _ _ _=>exact h
  | out=>exact h.elim
 | out =>
  cases p' with
  | ok b l'=>exact h.elim
  | bad _ _ _=>exact h.elim
  | out=>trivial
theorem zJ.ite{b b':Bool}{p q p' q':PR α}(hb:b=b')(h1:zJ S p p')(h2:zJ S q q'):zJ S (if b=true then p else q) (if b'=true then p' else q'):=by
 subst hb;cases b
 ·exact h2
 ·exact h1
end
theorem qW6(code:Int)(l l':List Tok)(hc:code≠0:=by decide):zJ xN (qWQ code l) (qWQ code l'):=⟨rfl,hc⟩
theorem xS{may may':Bool}{l l':List Tok}(hm:may=may')(h:Al l l'):zJ qKy (jV may l) (jV may' l'):=by
 subst hm;unfold Al at h;cases l with
 | nil =>
  cases l' with
  | nil=>exact⟨rfl,by decide⟩
  | cons t r=>simp at h
 | cons t r =>
  cases l' with
  | nil=>simp at h
  | cons t' r' =>
   simp only[List.map_cons,List.cons.injEq]at h;cases may
   ·exact⟨rfl,by decide⟩
   ·exact⟨h.1,h.2⟩
def UnitE(_ _:Unit):Prop:=True
theorem Al.text{l l':List Tok}(h:Al l l')(x:List UInt8):((hdT l).text == x)=((hdT l').text == x):=by rw[h.hd.text]
theorem Al.kind{l l':List Tok}(h:Al l l')(x:Int):((hdT l).kind == x)=((hdT l').kind == x):=by rw[h.hd.kind]
theorem Al.name{l l':List Tok}(h:Al l l'):kR (hdT l)=kR (hdT l'):=by unfold kR;rw[h.hd.kind,h.hd.text]
theorem Al.type{l l':List Tok}(h:Al l l'):yG (hdT l).text=yG (hdT l').text:=by rw[h.hd.text]
theorem zQ:∀ (xs:List (List UInt8)) {l l':List Tok},Al l l'→zJ UnitE (jL xs l) (jL xs l')
 | [],_,_,h=>⟨trivial,h⟩
 | x :: xs,_,_,h=>(xS (h.text x) h).bind fun _ _ _ _ _ h'=>zQ xs h'
theorem vJ{d:Int}{p p':Int→List Tok→PR qQ}{l l':List Tok}(h:zJ xN (p (d+1) l) (p' (d+1) l')):zJ xN (xX d p l) (xX d p' l'):=by
 unfold xX;by_cases hd:d=60
 ·rw[if_pos hd,if_pos hd];exact qW6 _ _ _
 ·rw[if_neg hd,if_neg hd];exact h
theorem qZA{stop:Tok→Bool}{p p':List Tok→PR qQ}(hs:∀ {t t'},qKy t t'→stop t=stop t')(hp:∀ {l l'},Al l l'→zJ xN (p l) (p' l')):∀ (n:Nat) {acc acc':List qQ} {l l':List Tok},qYQ acc acc'→Al l l'→zJ qYQ (vI stop p n acc l) (vI stop p' n acc' l')
 | 0,_,_,_,_,_,_=>trivial
 | n+1,acc,acc',l,l',ha,h=>by
  rw[vI,vI];exact zJ.ite (hs h.hd) (zJ.ok ha h) ((hp h).bind fun _ _ _ _ ht h'=>qZA hs hp n (wA ha (jC ht)) h')
theorem qQc{kind:List UInt8}{void void':Bool}(hv:void=void'){l l':List Tok}(h:Al l l'):zJ xN (zG kind void l) (zG kind void' l') :=
 (xS (by rw[hv,h.type]) h).bind fun _ _ _ _ ht h1=>(xS h1.name h1).bind fun _ _ _ _ hu h2=>zJ.ok (zR rfl hu.text rfl (jC (zR rfl ht.text rfl yL))) h2
theorem qXv{l l':List Tok}(h:Al l l'):zJ xN (wQ l) (wQ l'):=(xS (h.kind 1) h).bind fun _ _ _ _ ht h1=>zJ.ok (zR rfl rfl ht.num yL) h1
theorem qXu{n:Nat}{p p':List Tok→PR qQ}(hp:∀ {l l'},Al l l'→zJ xN (p l) (p' l')){l l':List Tok}(h:Al l l'):zJ qYQ (xT n p l) (xT n p' l'):=by
 unfold xT;refine(zQ [[40]] h).bind fun _ _ l1 l1' _ h1=>?_
 refine zJ.ite (h1.text [41]) ((zQ [[41]] h1).bind fun _ _ _ _ _ h2=>zJ.ok yL h2) ?_;refine(hp h1).bind fun _ _ _ _ ht h2=>?_
 refine(qZA (fun ht=>by rw[ht.text]) (fun hl=>(zQ [[44]] hl).bind fun _ _ _ _ _ h3=>hp h3) n (jC ht) h2).bind fun _ _ _ _ hts h3=>?_
 exact(zQ [[41]] h3).bind fun _ _ _ _ _ h4=>zJ.ok hts h4
section
variable {rec:NT→Int→List Tok→PR qQ} {n:Nat}
def qZa(rec:NT→Int→List Tok→PR qQ):Prop:=∀ x d {l l':List Tok},Al l l'→zJ xN (rec x d l) (rec x d l')
theorem qXw(H:qZa rec)(d:Int){l l':List Tok}(h:Al l l'):zJ xN (xF rec d l) (xF rec d l'):=by
 unfold xF;refine(xS h.name h).bind fun _ _ _ _ ht h1=>?_
 refine zJ.ite (h1.text [91]) ((zQ [[91]] h1).bind fun _ _ _ _ _ h2=>(vJ (H (.binary 0) (d+1) h2)).bind fun _ _ _ _ he h3=>(zQ [[93]] h3).bind fun _ _ _ _ _ h4=>zJ.ok (zR rfl ht.text rfl (jC he)) h4) ?_;exact zJ.ok (zR rfl ht.text rfl yL) h1
theorem qVL(H:qZa rec)(d:Int){l l':List Tok}(h:Al l l'):zJ xN (yJ rec d l) (yJ rec d l'):=by
 unfold yJ;refine(xS (h.text [40]) h).bind fun _ _ _ _ ht h1=>?_
 refine zJ.ite h1.type ((xS rfl h1).bind fun _ _ _ _ hu h2=>(zQ [[41]] h2).bind fun _ _ _ _ _ h3=>(vJ (H .operand (d+1) h3)).bind fun _ _ _ _ he h4=>zJ.ok (zR rfl hu.text rfl (jC he)) h4) ?_;exact(vJ (H (.binary 0) (d+1) h1)).bind fun _ _ _ _ he h2=>(zQ [[41]] h2).bind fun _ _ _ _ _ h3=>zJ.ok he h3
theorem qJR(H:qZa rec)(d:Int){l l':List Tok}(h:Al l l'):zJ xN (jU rec d l) (jU rec d l'):=by
 unfold jU;refine zJ.ite (h.kind 1) (qXv h) ?_;refine zJ.ite (by rw[h.hd.text]) ((xS rfl h).bind fun _ _ _ _ hu h1=>zJ.ok (zR hu.text rfl rfl yL) h1) ?_;refine zJ.ite (by rw[h.hd.text]) ((xS rfl h).bind fun _ _ _ _ hu h1=>(vJ (H .operand (d+1) h1)).bind fun _ _ _ _ he h2=>zJ.ok (zR rfl hu.text rfl (jC he)) h2) ?_;exact zJ.ite (h.text [40]) (qVL H d h) (qXw H d h)
theorem qZR(H:qZa rec)(k d:Int):∀ (m:Nat) {left left':qQ} {l l':List Tok},xN left left'→Al l l'→zJ xN (kX rec k d m left l) (kX rec k d m left' l')
 | 0,_,_,_,_,_,_=>trivial
 | m+1,left,left',l,l',hl,h=>by
  rw[kX,kX,h.hd.text];by_cases hk:xL (hdT l').text < k
  ·rw[if_pos hk,if_pos hk];exact zJ.ok hl h
  ·rw[if_neg hk,if_neg hk];exact(xS rfl h).bind fun _ _ _ _ ht h1=>(H _ d h1).bind fun _ _ _ _ hr h2=>qZR H k d m (zR rfl ht.text rfl (qZi hl hr)) h2
theorem qKL(H:qZa rec)(k d:Int){l l':List Tok}(h:Al l l'):zJ xN (qQy rec n k d l) (qQy rec n k d l'):=by
 unfold qQy;exact(H .operand d h).bind fun _ _ _ _ he h1=>qZR H k d n he h1
theorem qZz(H:qZa rec)(d:Int){l l':List Tok}(h:Al l l'):zJ xN (qQh rec d l) (qQh rec d l'):=H (.binary 0) d h
theorem qJQ(H:qZa rec)(d:Int){l l':List Tok}(h:Al l l'):zJ xN (qQz rec n d l) (qQz rec n d l'):=by
 unfold qQz;exact(xS h.name h).bind fun _ _ _ _ ht h1=>(qXu (fun hl=>vJ (H (.binary 0) (d+1) hl)) h1).bind fun _ _ _ _ hts h2=>zJ.ok (zR rfl ht.text rfl hts) h2
theorem Al.call{l l':List Tok}(h:Al l l'):qQR l=qQR l':=by
 unfold Al at h;match l,l',h with
 | [],[],_=>rfl
 | [],_ :: _,h=>simp at h
 | _ :: _,[],h=>simp at h
 | [t],[t'],_=>rfl
 | [t],_ :: _ :: _,h=>simp at h
 | _ :: _ :: _,[t],h=>simp at h
 | t :: u :: r,t' :: u' :: r',h =>
  simp only[List.map_cons,List.cons.injEq]at h;have h1:qKy t t':=h.1;have h2:qKy u u':=h.2.1;show(kR t && u.text == [40])=(kR t' && u'.text == [40])
  unfold kR;rw[h1.kind,h1.text,h2.text]
theorem qKK(H:qZa rec)(d:Int){l l':List Tok}(h:Al l l'):zJ xN (jJ rec n d l) (jJ rec n d l'):=by
 unfold jJ;refine zJ.ite h.call ((qJQ H d h).bind fun _ _ _ _ ht h1=>(zQ [[59]] h1).bind fun _ _ _ _ _ h2=>zJ.ok ht h2) ?_;refine(qXw H d h).bind fun _ _ _ _ hx h1=>(zQ [[61]] h1).bind fun _ _ _ _ _ h2=>?_
 refine zJ.ite (h2.text qW) ((zQ [qW,[40],[41]] h2).bind fun _ _ _ _ _ h3=>(zQ [[59]] h3).bind fun _ _ _ _ _ h4=>zJ.ok (zR rfl rfl rfl (jC hx)) h4) ?_;refine zJ.ite h2.call ((qJQ H d h2).bind fun _ _ _ _ hy h3=>(zQ [[59]] h3).bind fun _ _ _ _ _ h4=>zJ.ok (zR rfl rfl rfl (qZi hx hy)) h4) ?_;exact(qZz H d h2).bind fun _ _ _ _ hy h3=>(zQ [[59]] h3).bind fun _ _ _ _ _ h4=>zJ.ok (zR rfl rfl rfl (qZi hx hy)) h4
theorem qVI(H:qZa rec)(d:Int){l l':List Tok}(h:Al l l'):zJ xN (kL rec d l) (kL rec d l'):=by
 unfold kL;exact(xS rfl h).bind fun _ _ _ _ ht h1=>(zQ [[40]] h1).bind fun _ _ _ _ _ h2=>(qZz H d h2).bind fun _ _ _ _ he h3=>(zQ [[41],[59]] h3).bind fun _ _ _ _ _ h4=>zJ.ok (zR ht.text rfl rfl (jC he)) h4
theorem qVJ(H:qZa rec)(d:Int){l l':List Tok}(h:Al l l'):zJ xN (yC rec d l) (yC rec d l'):=by
 unfold yC;refine(zQ [qV] h).bind fun _ _ _ _ _ h1=>?_
 refine zJ.ite (h1.text [59]) ((zQ [[59]] h1).bind fun _ _ _ _ _ h2=>zJ.ok (zR rfl rfl rfl yL) h2) ?_;exact(qZz H d h1).bind fun _ _ _ _ he h2=>(zQ [[59]] h2).bind fun _ _ _ _ _ h3=>zJ.ok (zR rfl rfl rfl (jC he)) h3
theorem qZS(H:qZa rec)(word:List UInt8)(d:Int){l l':List Tok}(h:Al l l'):zJ xN (jK rec word d l) (jK rec word d l'):=by
 unfold jK;exact(zQ [word,[40]] h).bind fun _ _ _ _ _ h1=>(qZz H d h1).bind fun _ _ _ _ he h2=>(zQ [[41]] h2).bind fun _ _ _ _ _ h3=>(vJ (H .block (d+1) h3)).bind fun _ _ _ _ hb h4=>zJ.ok (zR rfl rfl rfl (qZi he hb)) h4
theorem qKM(H:qZa rec)(d:Int){l l':List Tok}(h:Al l l'):zJ xN (vF rec d l) (vF rec d l'):=by
 unfold vF;refine(qZS H kIf d h).bind fun t t' _ _ ht h1=>?_
 refine zJ.ite (h1.text zS) ((zQ [zS] h1).bind fun _ _ _ _ _ h2=>(vJ (H .block (d+1) h2)).bind fun _ _ _ _ hb h3=>zJ.ok ?_ h3) (zJ.ok ht h1);obtain⟨e1,e2,e3,e4⟩:=jN ht;exact zR e1 e2 e3 (wA e4 (jC hb))
theorem qVK{l l':List Tok}(h:Al l l'):zJ xN (qQM l) (qQM l'):=(qQc rfl h).bind fun _ _ _ _ ht h1=>(zQ [[59]] h1).bind fun _ _ _ _ _ h2=>zJ.ok ht h2
theorem qW8(H:qZa rec)(d:Int){l l':List Tok}(h:Al l l'):zJ xN (qQA rec n d l) (qQA rec n d l'):=by
 unfold qQA;refine zJ.ite (h.text kIf) (qKM H d h) ?_;refine zJ.ite (h.text qA) (qZS H qA d h) ?_;refine zJ.ite (h.text qV) (qVJ H d h) ?_;refine zJ.ite (by rw[h.hd.text]) (qVI H d h) ?_;exact zJ.ite h.type (qVK h) (qKK H d h)
theorem qVH(H:qZa rec)(d:Int){l l':List Tok}(h:Al l l'):zJ xN (qQK rec n d l) (qQK rec n d l'):=by
 unfold qQK;refine(zQ [[123]] h).bind fun _ _ _ _ _ h1=>?_
 exact(qZA (fun ht=>by rw[ht.text]) (fun hl=>qW8 H d hl) n yL h1).bind fun _ _ _ _ hts h2=>(zQ [[125]] h2).bind fun _ _ _ _ _ h3=>zJ.ok (zR rfl rfl rfl hts) h3
end
theorem qXb:∀ n,qZa (qQd n)
 | 0=>fun _ _ _ _ _=>trivial
 | n+1=>fun x d l l' h=>by
  cases x with
  | block=>exact qVH (qXb n) d h
  | binary k=>exact qKL (qXb n) k d h
  | operand=>exact qJR (qXb n) d h
theorem qW7(n:Nat){l l':List Tok}(h:Al l l'):zJ xN (qZe n l) (qZe n l'):=by
 unfold qZe;refine(qQc (h.text zA) h).bind fun t t' l1 l1' ht h1=>?_
 obtain⟨e1,e2,e3,e4⟩:=jN ht;refine zJ.ite (by rw[h.hd.text,h1.hd.text]) ((qXu (fun hl=>qQc rfl hl) h1).bind fun _ _ _ _ hps h2=>(vJ (qXb n .block (0+1) h2)).bind fun _ _ _ _ hb h3=>zJ.ok (zR rfl e2 e3 (wA (wA e4 hps) (jC hb))) h3) ?_;refine zJ.ite (h1.text [91]) ((zQ [[91]] h1).bind fun _ _ _ _ _ h2=>(qXv h2).bind fun _ _ _ _ hm h3=>(zQ [[93]] h3).bind fun _ _ _ _ _ h4=>(zQ [[59]] h4).bind fun _ _ _ _ _ h5=>zJ.ok (zR e1 e2 e3 (wA e4 (jC hm))) h5) ?_;exact(zQ [[59]] h1).bind fun _ _ _ _ _ h2=>zJ.ok ht h2
theorem rel_program(n:Nat){l l':List Tok}(h:Al l l'):zJ xN (xW n l) (xW n l'):=by
 unfold xW;exact(qZA (fun ht=>by rw[ht.kind]) (fun hl=>qW7 n hl) n yL h).bind fun _ _ _ _ hts h1=>zJ.ok (zR rfl rfl rfl hts) h1
end Go.Proofs.YtiajhekdhhhghaaGreatDoor.NZ
namespace Go.Proofs.YtiajhekdhhhghaaGreatDoor
open Tryz Go.Proofs.Tryz
open Go Go.RowKit
def qQ9(p:CR PrD)(w:World)(e:Ending)(w':World):Prop :=
 match p with
 | .ok r=>∃ v,e=.returned (.tuple #[v, .int .i64 0, .int .i64 0, .int .i64 0])∧qZ2 w.1.size r v w'∧Below w.1.size w w'
 | .bad ln co code=>e=.returned (.tuple #[qZX, .int .i64 ln, .int .i64 co, .int .i64 code])∧Below w.1.size w w'
theorem qQ9.okI{p:CR PrD}{r:PrD}{w w':World}{v:Value}(hp:p=.ok r)(h:qZ2 w.1.size r v w')(hb:Below w.1.size w w'):qQ9 p w (.returned (.tuple #[v, .int .i64 0, .int .i64 0, .int .i64 0])) w':=by
 rw[hp];exact⟨v,rfl,h,hb⟩
theorem qQ9.badI{p:CR PrD}{w w':World}{ln co code:Int}(hp:p=.bad ln co code)(hb:Below w.1.size w w'):qQ9 p w (.returned (.tuple #[qZX, .int .i64 ln, .int .i64 co, .int .i64 code])) w':=by
 rw[hp];exact⟨rfl,hb⟩
theorem qQ9.cases{p:CR PrD}{w w':World}{e:Ending}(h:qQ9 p w e w') :
 (∃ r v,p=.ok r∧e=.returned (.tuple #[v, .int .i64 0, .int .i64 0, .int .i64 0])∧qZ2 w.1.size r v w'∧Below w.1.size w w')∨∃ ln co code,p=.bad ln co code∧e=.returned (.tuple #[qZX, .int .i64 ln, .int .i64 co, .int .i64 code])∧Below w.1.size w w':=by
 cases p with
 | ok r=>obtain⟨v,h1,h2,h3⟩:=h;exact .inl ⟨r,v,rfl,h1,h2,h3⟩
 | bad ln co code=>exact .inr ⟨ln,co,code,rfl,h.1,h.2⟩
theorem qZZ.cases{p:CR PrD}{w w':World}{e:Ending}(h:qZZ p w e w') :
 (∃ r v,p=.ok r∧e=.returned (.tuple #[v, .agg #[.int .i64 0, .int .i64 0, .int .i64 0]])∧qZ2 w.1.size r v w'∧Below w.1.size w w')∨∃ ln co code,p=.bad ln co code∧e=.returned (.tuple #[qZX, .agg #[.int .i64 ln, .int .i64 co, .int .i64 code]])∧Below w.1.size w w':=by
 cases p with
 | ok r=>obtain⟨v,h1,h2,h3⟩:=h;exact .inl ⟨r,v,rfl,h1,h2,h3⟩
 | bad ln co code=>exact .inr ⟨ln,co,code,rfl,h.1,h.2⟩
theorem qZ2.shape{lo:Nat}{p:PrD}{v:Value}{w:World}(h:qZ2 lo p v w):∃ gq gc fq fc,v=.agg #[.slice gq p.globals.length gc, .slice fq p.funcs.length fc, .int .i64 p.main]:=by
 obtain⟨fs,bs,gv,fv,rfl,h1,h2,h3,h4,h5,_⟩:=h;have hfl:p.funcs.length=fs.length:=by rw[h4,qVf fs bs (by omega),h5]
 have e1:∃ q c,gv=.slice q p.globals.length c:=by
  rcases h1.2 with⟨rfl,h0⟩ | ⟨g,cap,cur,rfl,_⟩
  ·exact⟨none,0,by rw[h0]⟩
  ·exact⟨_,_,rfl⟩
 have e2:∃ q c,fv=.slice q p.funcs.length c:=by
  rw[hfl];rcases h2.2 with⟨rfl,h0⟩ | ⟨g,cap,cur,rfl,_⟩
  ·exact⟨none,0,by rw[h0]⟩
  ·exact⟨_,_,rfl⟩
 obtain⟨gq,gc,rfl⟩:=e1;obtain⟨fq,fc,rfl⟩:=e2;exact⟨gq,gc,fq,fc,rfl⟩
theorem qZ2.move{lo lo':Nat}{p:PrD}{v:Value}{w w':World}{P:Nat}(h:qZ2 lo p v w)(hk:jX w P 30)(hlo:P < lo∧lo'≤lo)(st:∀ k,k < w.1.size→k≠P→w'.1[k]? = w.1[k]?):qZ2 lo' p v w':=by
 have sK:∀ {b S},jX w b S→S≠30→w'.1[b]? = w.1[b]?:=fun k h1=>st _ k.lt (k.ne hk h1)
 obtain⟨fs,bs,gv,fv,e,h1,h2,h3,h4,h5,h6,h7⟩:=h;exact⟨fs,bs,gv,fv,e,zU h1 (fun g hg=>sK (zE h1 hg) (by decide)),zU h2 (fun g hg=>sK (zE h2 hg) (by decide)),fun f hf=>zU (h3 f hf) (fun g hg=>sK (zE (h3 f hf) hg) (by decide)),h4,h5,fun j hj=>jE.move (h6 j hj) (fun g hg hok=>⟨⟨by omega,hok.2⟩,st g hg (by omega)⟩),h7⟩
theorem check_tree(n:Nat)(t:qQ)(v:Value)(w:World)(ws:List (List UInt8))(hc:qYA w)(h4:qWB w)(hl:xZ w (· < w.1.size) t v)(hN:qZl t)(he:qQO n t=some ws)(hlen:ws.length≤900000)(hsl:(qUv ws).length≤140737488355328) :
 Calls prog 22 #[qZ t v] w (qQ9 (qZb t) w):=by
 obtain⟨q0,vc,rfl,_,_⟩:=hl.shape;have ho:PgOk t:=pg_of he hN hlen;have ha:=bal (Below.refl w.1.size w) (qB t (.slice q0 t.kids.length vc));have hp:=qKx.new (w.alloc (qB t (.slice q0 t.kids.length vc)));have hkd:=jX.new (w.alloc (qB t (.slice q0 t.kids.length vc))) #[.slice none 0 0, .slice none 0 0, .int .i64 0] 30;have hb:=ha.trans ((bal (Below.refl _ (w.alloc (qB t (.slice q0 t.kids.length vc)))) (.cells #[.slice none 0 0, .slice none 0 0, .int .i64 0] 30)).mono ha.size);have hn:=(Hn.new t (.slice q0 t.kids.length vc) w).below (bal (Below.refl _ (w.alloc (qB t (.slice q0 t.kids.length vc)))) (.cells #[.slice none 0 0, .slice none 0 0, .int .i64 0] 30));have hsh:=show_any n t (.slice q0 t.kids.length vc) _ ws (h4.below hb) (xZ.move (fun g hg hok=>⟨Nat.lt_of_lt_of_le hg hb.size,hb.block g hg⟩) t _ hl) hN he (by omega) hsl;have HSH:=hI hsh;have HB:=hI hb;have HN:=hI hn;have HP:=hI hp;have HK:=hI hkd;have HC:=hI (fun(W:World) (h:Below w.1.size w W)=>qUH t (.slice q0 t.kids.length vc) W (hc.below h) (xZ.move (fun g hg hok=>⟨Nat.lt_of_lt_of_le hg h.size,h.block g hg⟩) t _ hl) ho);clear hc h4 hl hN he ho ha hb hn hsh hp hlen hsl hkd;generalize qZb t=p at *;simp only[qS,qZ,qB]at *;go_enter func22,ntmps22
 go_wp2_with fail
 refine(HSH.o).mono ?_;rintro e w3 ⟨rfl,hb3⟩;have HB3:=hI (HB.o.trans (hb3.mono HB.o.size));have hs3:=hb3.size;have N3:=HN.o.below hb3;have P3:=hI (HP.o.turn (hb3.block _ (by simp)));have K3:=HK.o.turn (hb3.block _ (by simp));rw[World.size_alloc]at K3;have K3:=hI K3;obtain⟨c0,c1,c2,c3,c4,c5⟩:=N3.cells;have hl3:=N3.lt;have HC3:=hI (HC.o w3 HB3.o);clear hb3 HSH HC HB HN HP HK;have hs3':w.1.size+1 < w3.1.size:=by simp at hs3;omega
 go_wp2_with fail
 refine(HC3.o).mono ?_;intro e w4 hq;rcases hq.cases with⟨r,v,rfl,rfl,hr,hb4⟩ | ⟨ln,co,code,rfl,rfl,hb4⟩
 ·obtain⟨gq,gc,fq,fc,rfl⟩:=hr.shape;have HR:=hI hr;have HB4:=hI (HB3.o.trans (hb4.mono HB3.o.size));have K4:=hI (K3.o.turn (hb4.block _ hs3'));have P4:=P3.o.turn (hb4.block _ (qJ P3.o.c0));rw[World.size_alloc]at P4;have⟨r0,r1,r2,_⟩:=P4.a;have⟨g0,g1,g2,_⟩:=P4.b;have hlt:=qJ r0;clear hq hr hb4 P4 HC3 P3;simp only at hlt;have hA:=(bal (Below.refl w4.1.size w4) (.cells #[.slice gq r.globals.length gc, .slice fq r.funcs.length fc, .int .i64 r.main] 30)).trans ((bal (Below.refl _ (w4.alloc (.cells #[.slice gq r.globals.length gc, .slice fq r.funcs.length fc, .int .i64 r.main] 30))) (.cells #[.int .i64 0, .int .i64 0, .int .i64 0] 97)).mono (by simp));have z0:=(hA.cell (p:=⟨w.1.size+1,0,none⟩) hlt).trans r0;have z1:=(hA.cell (p:=⟨w.1.size+1,1,none⟩) hlt).trans r1;have z2:=(hA.cell (p:=⟨w.1.size+1,2,none⟩) hlt).trans r2;have f0:=(hA.frozen (p:=⟨w.1.size+1,0,none⟩) hlt).trans g0;have f1:=(hA.frozen (p:=⟨w.1.size+1,1,none⟩) hlt).trans g1;have f2:=(hA.frozen (p:=⟨w.1.size+1,2,none⟩) hlt).trans g2;have HA:=hI hA;have hne:¬w.1.size+1=w4.1.size:=by omega
  have hne2:¬w.1.size=w4.1.size:=by omega
  have hne3:¬w4.1.size=w.1.size+1:=by omega
  clear hA;go_wp2
  go_region
  go_wp2
  refine bodyPost_ret (v:=.tuple #[.agg #[.slice gq r.globals.length gc, .slice fq r.funcs.length fc, .int .i64 r.main], .int .i64 0, .int .i64 0, .int .i64 0]) (by simp[results,results22,go_sem, *]) rfl ?_;refine qQ9.okI rfl (HR.o.move K4.o ⟨hs3',by omega⟩ fun k hk hne4=>?_) (jR (jR (jR (HB4.o.trans (HA.o.mono HB4.o.size)) (by omega) _) (by omega) _) (by omega) _).drew;show(World.setCell _ _ _).1[k]? = _
  rw[hS _ _ _ _ hne4,hS _ _ _ _ hne4,hS _ _ _ _ hne4];exact HA.o.block k hk
 ·have HB4:=hI (HB3.o.trans (hb4.mono HB3.o.size));have P4:=P3.o.turn (hb4.block _ (qJ P3.o.c0));rw[World.size_alloc]at P4;have⟨r0,r1,r2,_⟩:=P4.a;have⟨g0,g1,g2,_⟩:=P4.b;have hlt:=qJ r0;clear hq hb4 P4 HC3 P3;simp only at hlt;unfold qZX;have hA:=(bal (Below.refl w4.1.size w4) (.cells #[.slice none 0 0, .slice none 0 0, .int .i64 0] 30)).trans ((bal (Below.refl _ (w4.alloc (.cells #[.slice none 0 0, .slice none 0 0, .int .i64 0] 30))) (.cells #[.int .i64 ln, .int .i64 co, .int .i64 code] 97)).mono (by simp));have z0:=(hA.cell (p:=⟨w.1.size+1,0,none⟩) hlt).trans r0;have z1:=(hA.cell (p:=⟨w.1.size+1,1,none⟩) hlt).trans r1;have z2:=(hA.cell (p:=⟨w.1.size+1,2,none⟩) hlt).trans r2;have f0:=(hA.frozen (p:=⟨w.1.size+1,0,none⟩) hlt).trans g0;have f1:=(hA.frozen (p:=⟨w.1.size+1,1,none⟩) hlt).trans g1;have f2:=(hA.frozen (p:=⟨w.1.size+1,2,none⟩) hlt).trans g2;have HA:=hI hA;have hne:¬w.1.size+1=w4.1.size:=by omega
  have hne2:¬w.1.size=w4.1.size:=by omega
  have hne3:¬w4.1.size=w.1.size+1:=by omega
  clear hA;go_wp2
  go_region
  go_wp2
  refine bodyPost_ret (v:=.tuple #[.agg #[.slice none 0 0, .slice none 0 0, .int .i64 0], .int .i64 ln, .int .i64 co, .int .i64 code]) (by simp[results,results22,go_sem, *]) rfl ?_;exact qQ9.badI rfl (jR (jR (jR (HB4.o.trans (HA.o.mono HB4.o.size)) (by omega) _) (by omega) _) (by omega) _).drew
def qXN(s:List UInt8):CR PrD :=
 match qZ4 s with
 | .ok t _=>qZb t
 | .bad a b c=>.bad a b c
 | .out=>.bad 0 0 0
theorem read_words{s:List UInt8}{t:qQ}{l:List Tok}(h:qZ4 s=.ok t l):qZl t∧∃ n ws,qQO n t=some ws∧ws.length≤458752∧(qUv ws).length≤458752:=by
 unfold qZ4 at h;split at h
 ·rename_i hs;unfold qJq at h;split at h
  ·cases h
  ·rename_i ts hx;obtain⟨ht1,ht2⟩:=lex_toks _ s 1 1 ts (Nat.le_refl _) hs hx;obtain⟨hN,hd,ws,hw,hwb,hwl⟩:=prog_words 200000 ts ⟨ht1,by omega⟩ t l h;have hsl:=show_len ws;have hwn:=qPM ws;exact⟨hN,_,ws,hw,by omega,by show(Lib.join ws [32]).length≤458752;omega⟩
 ·cases h
theorem parse_code{s:List UInt8}{a b c:Int}(h:qZ4 s=.bad a b c):c≠0:=by
 unfold qZ4 at h;split at h
 ·rename_i hs;unfold qJq at h;split at h
  ·rename_i ln co code hx;injection h with e1 e2 e3;rcases qPN _ _ _ _ (Nat.le_refl _) hx with h | h <;> omega
  ·rename_i ts hx;have:=NZ.rel_program 200000 (l:=ts) (l':=ts) rfl;rw[h]at this;exact this.2
 ·injection h with e1 e2 e3;omega
theorem qKb(s:ByteArray)(w:World)(hc:qYA w)(h4:qWB w):Calls prog 9 #[.string s] w (qQ9 (qXN s.data.toList) w):=by
 have hp:=bal (Below.refl w.1.size w) (.cells #[.slice none 0 0, .slice none 0 0, .int .i64 0] 30);have HP:=hI (qKx.new w);have HK:=hI (jX.new w #[.slice none 0 0, .slice none 0 0, .int .i64 0] 30);have HB:=hI hp;have HR:=hI (read_all s _ (h4.below hp).1);have HC:=hI (fun(W:World) (h:Below w.1.size w W)=>hc.below h);have H4:=hI (fun(W:World) (h:Below w.1.size w W)=>h4.below h);have HO:=qVG s.data.toList;have hs0:(w.alloc (.cells #[.slice none 0 0, .slice none 0 0, .int .i64 0] 30)).1.size=w.1.size+1:=by simp
 clear hp hc h4;cases hr:qZ4 s.data.toList with
 | out=>exact absurd hr HO
 | bad a b c =>
  have hcode:=parse_code hr;have hcb:(c != 0)=true:=by simpa using hcode
  have HRC:=hI (show qXN s.data.toList=.bad a b c by simp only[qXN,hr]);rw[hr]at HR;clear HO hr hcode HC H4;go_enter func9,ntmps9
  go_wp2_with fail
  refine(HR.o).mono ?_;rintro e w1 ⟨rfl,hb1⟩;have HB1:=hI (HB.o.trans (hb1.mono HB.o.size));have P1:=HP.o.turn (hb1.block _ (by omega));have⟨r0,r1,r2,_⟩:=P1.a;have⟨g0,g1,g2,_⟩:=P1.b;have hlt:=qJ r0;simp only at hlt;have hne:¬w.1.size=w1.1.size:=by omega
  have hne3:¬w1.1.size=w.1.size:=by omega
  clear hb1 P1 HP HR HB HK;unfold qXH;go_wp2
  refine bodyPost_ret (v:=.tuple #[.agg #[.slice none 0 0, .slice none 0 0, .int .i64 0], .int .i64 a, .int .i64 b, .int .i64 c]) (by simp[results,results9,go_sem, *]) rfl ?_;exact qQ9.badI HRC.o (bal (jR (jR (jR HB1.o (by omega) _) (by omega) _) (by omega) _) _)
 | ok t l =>
  obtain⟨hN,n,ws,hw,hwl,hsl⟩:=read_words hr;have HRC:=hI (show qXN s.data.toList=qZb t by simp only[qXN,hr]);rw[hr]at HR;have HCK:=hI (fun(v:Value) (W:World) (h:Below w.1.size w W) (hL:xZ W (· < W.1.size) t v)=>check_tree n t v W ws (HC.o W h) (H4.o W h) hL hN hw (by omega) (by omega));clear HO hr hN hw hwl hsl HC H4;rw[HRC.o];generalize qZb t=p at *;go_enter func9,ntmps9
  go_wp2_with fail
  refine(HR.o).mono ?_;rintro e w1 ⟨v,rfl,hbd,hb1⟩;have hL:xZ w1 (· < w1.1.size) t v:=xZ.move (fun g hg _=>⟨hg,rfl⟩) t v hbd.lies;obtain⟨qa,ca,rfl,_,_⟩:=hL.shape;have ha:=bal (Below.refl w1.1.size w1) (.cells (qS t (.slice qa t.kids.length ca)).toArray 57);have hb2:=HB.o.trans ((hb1.trans (ha.mono hb1.size)).mono HB.o.size);have P1:=hI (HP.o.turn ((hb1.trans (ha.mono hb1.size)).block _ (by omega)));have K1:=hI (HK.o.turn ((hb1.trans (ha.mono hb1.size)).block _ (by omega)));have HC2:=hI (HCK.o (.slice qa t.kids.length ca) _ hb2 (xZ.move (fun g hg hok=>⟨Nat.lt_of_lt_of_le hg ha.size,ha.block g hg⟩) _ _ hL));have HB2:=hI hb2;have hs1:=hb1.size;have hs2:(w1.alloc (.cells (qS t (.slice qa t.kids.length ca)).toArray 57)).1.size=w1.1.size+1:=by simp
  clear hbd hb1 hL ha hb2 HP HK HR HCK HB;simp only[qS,qZ]at *;go_wp2_with fail
  refine(HC2.o).mono ?_;intro e w4 hq;rcases hq.cases with⟨r,v,rfl,rfl,hr,hb4⟩ | ⟨ln,co,code,rfl,rfl,hb4⟩
  ·have hlo:w.1.size < (w1.alloc (.cells #[.string ⟨t.kind.toArray⟩, .string ⟨t.text.toArray⟩, .int .u64 t.num, .int .i64 t.line, .int .i64 t.col, .slice qa t.kids.length ca] 57)).1.size:=by omega
   obtain⟨gq,gc,fq,fc,rfl⟩:=hr.shape;have HR:=hI hr;have HB4:=hI (HB2.o.trans (hb4.mono HB2.o.size));have K4:=hI (K1.o.turn (hb4.block _ hlo));have P4:=P1.o.turn (hb4.block _ hlo);have⟨r0,r1,r2,_⟩:=P4.a;have⟨g0,g1,g2,_⟩:=P4.b;have hlt:=qJ r0;clear hq hr hb4 P4 HC2 P1 K1;simp only at hlt;go_wp2
   refine bodyPost_ret (v:=.tuple #[.agg #[.slice gq r.globals.length gc, .slice fq r.funcs.length fc, .int .i64 r.main], .int .i64 0, .int .i64 0, .int .i64 0]) (by simp[results,results9,go_sem, *]) rfl ?_;refine qQ9.okI rfl (HR.o.move K4.o ⟨hlo,by omega⟩ fun k hk hne4=>?_) (jR (jR (jR HB4.o (by omega) _) (by omega) _) (by omega) _);rw[hS _ _ _ _ hne4,hS _ _ _ _ hne4,hS _ _ _ _ hne4]
  ·have hlo:w.1.size < (w1.alloc (.cells #[.string ⟨t.kind.toArray⟩, .string ⟨t.text.toArray⟩, .int .u64 t.num, .int .i64 t.line, .int .i64 t.col, .slice qa t.kids.length ca] 57)).1.size:=by omega
   have HB4:=hI (HB2.o.trans (hb4.mono HB2.o.size));have P4:=P1.o.turn (hb4.block _ hlo);have⟨r0,r1,r2,_⟩:=P4.a;have⟨g0,g1,g2,_⟩:=P4.b;have hlt:=qJ r0;clear hq hb4 P4 HC2 P1 K1;simp only at hlt;unfold qZX;go_wp2
   refine bodyPost_ret (v:=.tuple #[.agg #[.slice none 0 0, .slice none 0 0, .int .i64 0], .int .i64 ln, .int .i64 co, .int .i64 code]) (by simp[results,results9,go_sem, *]) rfl ?_;exact qQ9.badI rfl (jR (jR (jR HB4.o (by omega) _) (by omega) _) (by omega) _)
def qYz{α β:Type}(f:α→β→List Value):List α→List β→List Value
 | t :: ts,v :: vs=>f t v++qYz f ts vs
 | _,_=>[]
theorem zipR_at{α β:Type}{f:α→β→List Value}{n:Nat}(hf:∀ a b,(f a b).length=n):∀ (L:List α) (M:List β) (i k:Nat) (hi:i < L.length) (hj:i < M.length),k < n→(qYz f L M)[i * n+k]? = (f L[i] M[i])[k]?
 | t :: ts,v :: vs,0,k,_,_,hk=>by
  rw[qYz,Nat.zero_mul,Nat.zero_add,List.getElem?_append_left (by rw[hf];exact hk)];rfl
 | t :: ts,v :: vs,i+1,k,hi,hj,hk=>by
  rw[qYz,List.getElem?_append_right (by rw[hf,Nat.add_mul];omega)];have e:(i+1) * n+k - (f t v).length=i * n+k:=by rw[hf,Nat.add_mul];omega
  rw[e];exact zipR_at hf ts vs i k (by simpa using hi) (by simpa using hj) hk
 | [],_,i,_,hi,_,_=>by simp at hi
 | _ :: _,[],i,_,_,hj,_=>by simp at hj
theorem qP8:∀ (L:List Ex) (M:List Value),qVM L M=qYz exC L M
 | [],_=>by simp[qVM,qYz]
 | _ :: _,[]=>rfl
 | t :: ts,v :: vs=>by rw[qVM,qYz,qP8 ts vs]
theorem qP9:∀ (L:List Sx) (M:List qQg),qVN L M=qYz sxC L M
 | [],_=>by simp[qVN,qYz]
 | _ :: _,[]=>rfl
 | t :: ts,v :: vs=>by rw[qVN,qYz,qP9 ts vs]
theorem qLn{α β:Type}{f:α→β→List Value}{n:Nat}(hf:∀ a b,(f a b).length=n){w:World}{base T m:Nat}{v:Value}{L:List α}{M:List β}{g:Nat}(h:w.ownsRow base T n v m (qYz f L M))(hg:v.ownBlock=some g)
 {i k:Nat} (hi:i < L.length) (hj:i < M.length) (hk:k < n) {u:Value} (hu:(f L[i] M[i])[k]? = some u):w.cell? ⟨g,i * n+k,none⟩=some u:=by
 have:=h.cells hg (i * n+k) u (by rw[zipR_at hf L M i k hi hj hk];exact hu);rw[Lib.add_plain,Nat.zero_add]at this;exact this
theorem yN.at{w:World}{ok:Nat→Prop}:∀ {ts:List Ex} {vs:List Value},yN w ok ts vs→∀ i (h:i < ts.length) (h':i < vs.length),qQF w ok ts[i] vs[i]
 | _ :: _,_ :: _,hL,0,_,_=>hL.1
 | _ :: _,_ :: _,hL,i+1,h,h'=>yN.at hL.2 i (by simpa using h) (by simpa using h')
 | [],_,_,_,h,_=>by simp at h
 | _ :: _,[],hL,_,_,_=>hL.elim
theorem yZ.at{w:World}{ok:Nat→Prop}:∀ {ts:List Sx} {vs:List qQg},yZ w ok ts vs→∀ i (h:i < ts.length) (h':i < vs.length),wL w ok ts[i] vs[i]
 | _ :: _,_ :: _,hL,0,_,_=>hL.1
 | _ :: _,_ :: _,hL,i+1,h,h'=>yZ.at hL.2 i (by simpa using h) (by simpa using h')
 | [],_,_,_,h,_=>by simp at h
 | _ :: _,[],hL,_,_,_=>hL.elim
def Ex.op:Ex→List UInt8 | .mk op _ _ _ _ _ _ _=>op
def Ex.num:Ex→Int | .mk _ _ n _ _ _ _ _=>n
def Ex.var:Ex→Int | .mk _ _ _ v _ _ _ _=>v
def Ex.glob:Ex→Bool | .mk _ _ _ _ g _ _ _=>g
def Ex.line:Ex→Int | .mk _ _ _ _ _ l _ _=>l
def Ex.col:Ex→Int | .mk _ _ _ _ _ _ c _=>c
def Sx.op:Sx→List UInt8 | .mk op _ _ _ _ _ _ _=>op
def Sx.line:Sx→Int | .mk _ l _ _ _ _ _ _=>l
def Sx.col:Sx→Int | .mk _ _ c _ _ _ _ _=>c
def Sx.target:Sx→List Ex | .mk _ _ _ t _ _ _ _=>t
def Sx.exprs:Sx→List Ex | .mk _ _ _ _ e _ _ _=>e
def Sx.fn:Sx→Int | .mk _ _ _ _ _ f _ _=>f
def Sx.thn:Sx→List Sx | .mk _ _ _ _ _ _ t _=>t
def Sx.els:Sx→List Sx | .mk _ _ _ _ _ _ _ e=>e
structure CEx(g o:Nat)(e:Ex)(v:Value)(w:World):Prop where
 c0:w.cell? ⟨g,o,none⟩=some (.string ⟨e.op.toArray⟩)
 c1:w.cell? ⟨g,o+1,none⟩=some (.int .i64 e.ty.1)
 c2:w.cell? ⟨g,o+2,none⟩=some (.bool e.ty.2)
 c3:w.cell? ⟨g,o+3,none⟩=some (.int .u64 e.num)
 c4:w.cell? ⟨g,o+4,none⟩=some (.int .i64 e.var)
 c5:w.cell? ⟨g,o+5,none⟩=some (.bool e.glob)
 c6:w.cell? ⟨g,o+6,none⟩=some (.int .i64 e.line)
 c7:w.cell? ⟨g,o+7,none⟩=some (.int .i64 e.col)
 c8:w.cell? ⟨g,o+8,none⟩=some (v)
theorem CEx.a{g o:Nat}{e:Ex}{v:Value}{w:World}(h:CEx g o e v w):w.cell? ⟨g,o,none⟩=some (.string ⟨e.op.toArray⟩)∧w.cell? ⟨g,o+1,none⟩=some (.int .i64 e.ty.1)∧w.cell? ⟨g,o+2,none⟩=some (.bool e.ty.2)∧w.cell? ⟨g,o+3,none⟩=some (.int .u64 e.num)∧w.cell? ⟨g,o+4,none⟩=some (.int .i64 e.var)∧w.cell? ⟨g,o+5,none⟩=some (.bool e.glob)∧w.cell? ⟨g,o+6,none⟩=some (.int .i64 e.line)∧w.cell? ⟨g,o+7,none⟩=some (.int .i64 e.col)∧w.cell? ⟨g,o+8,none⟩=some (v)∧True:=⟨h.c0,h.c1,h.c2,h.c3,h.c4,h.c5,h.c6,h.c7,h.c8,trivial⟩
theorem CEx.move{g o:Nat}{e:Ex}{v:Value}{w w':World}(h:CEx g o e v w)(hg:w'.1[g]? = w.1[g]?):CEx g o e v w' :=
 ⟨(cB hg).trans h.c0,(cB hg).trans h.c1,(cB hg).trans h.c2,(cB hg).trans h.c3,(cB hg).trans h.c4,(cB hg).trans h.c5,(cB hg).trans h.c6,(cB hg).trans h.c7,(cB hg).trans h.c8⟩
structure CSx(g o:Nat)(e:Sx)(v:qQg)(w:World):Prop where
 c0:w.cell? ⟨g,o,none⟩=some (.string ⟨e.op.toArray⟩)
 c1:w.cell? ⟨g,o+1,none⟩=some (.int .i64 e.line)
 c2:w.cell? ⟨g,o+2,none⟩=some (.int .i64 e.col)
 c3:w.cell? ⟨g,o+3,none⟩=some (v.tv)
 c4:w.cell? ⟨g,o+4,none⟩=some (v.ev)
 c5:w.cell? ⟨g,o+5,none⟩=some (.int .i64 e.fn)
 c6:w.cell? ⟨g,o+6,none⟩=some (v.hv)
 c7:w.cell? ⟨g,o+7,none⟩=some (v.lv)
theorem CSx.a{g o:Nat}{e:Sx}{v:qQg}{w:World}(h:CSx g o e v w):w.cell? ⟨g,o,none⟩=some (.string ⟨e.op.toArray⟩)∧w.cell? ⟨g,o+1,none⟩=some (.int .i64 e.line)∧w.cell? ⟨g,o+2,none⟩=some (.int .i64 e.col)∧w.cell? ⟨g,o+3,none⟩=some (v.tv)∧w.cell? ⟨g,o+4,none⟩=some (v.ev)∧w.cell? ⟨g,o+5,none⟩=some (.int .i64 e.fn)∧w.cell? ⟨g,o+6,none⟩=some (v.hv)∧w.cell? ⟨g,o+7,none⟩=some (v.lv)∧True:=⟨h.c0,h.c1,h.c2,h.c3,h.c4,h.c5,h.c6,h.c7,trivial⟩
theorem CSx.move{g o:Nat}{e:Sx}{v:qQg}{w w':World}(h:CSx g o e v w)(hg:w'.1[g]? = w.1[g]?):CSx g o e v w' :=
 ⟨(cB hg).trans h.c0,(cB hg).trans h.c1,(cB hg).trans h.c2,(cB hg).trans h.c3,(cB hg).trans h.c4,(cB hg).trans h.c5,(cB hg).trans h.c6,(cB hg).trans h.c7⟩
structure FVals where
 vv:Value
 bv:Value
def fdV(f:qQ2)(x:FVals):Value:=.agg #[.string ⟨f.name.toArray⟩, .int .i64 f.t.1, .bool f.t.2, .int .i64 f.params,x.vv,x.bv]
structure CFn(g o:Nat)(e:qQ2)(v:FVals)(w:World):Prop where
 c0:w.cell? ⟨g,o,none⟩=some (.string ⟨e.name.toArray⟩)
 c1:w.cell? ⟨g,o+1,none⟩=some (.int .i64 e.t.1)
 c2:w.cell? ⟨g,o+2,none⟩=some (.bool e.t.2)
 c3:w.cell? ⟨g,o+3,none⟩=some (.int .i64 e.params)
 c4:w.cell? ⟨g,o+4,none⟩=some (v.vv)
 c5:w.cell? ⟨g,o+5,none⟩=some (v.bv)
theorem CFn.a{g o:Nat}{e:qQ2}{v:FVals}{w:World}(h:CFn g o e v w):w.cell? ⟨g,o,none⟩=some (.string ⟨e.name.toArray⟩)∧w.cell? ⟨g,o+1,none⟩=some (.int .i64 e.t.1)∧w.cell? ⟨g,o+2,none⟩=some (.bool e.t.2)∧w.cell? ⟨g,o+3,none⟩=some (.int .i64 e.params)∧w.cell? ⟨g,o+4,none⟩=some (v.vv)∧w.cell? ⟨g,o+5,none⟩=some (v.bv)∧True:=⟨h.c0,h.c1,h.c2,h.c3,h.c4,h.c5,trivial⟩
theorem CFn.move{g o:Nat}{e:qQ2}{v:FVals}{w w':World}(h:CFn g o e v w)(hg:w'.1[g]? = w.1[g]?):CFn g o e v w' :=
 ⟨(cB hg).trans h.c0,(cB hg).trans h.c1,(cB hg).trans h.c2,(cB hg).trans h.c3,(cB hg).trans h.c4,(cB hg).trans h.c5⟩
structure CVr(g o:Nat)(e:qI)(v:Unit)(w:World):Prop where
 c0:w.cell? ⟨g,o,none⟩=some (.string ⟨e.name.toArray⟩)
 c1:w.cell? ⟨g,o+1,none⟩=some (.int .i64 e.t.1)
 c2:w.cell? ⟨g,o+2,none⟩=some (.bool e.t.2)
 c3:w.cell? ⟨g,o+3,none⟩=some (.int .i64 e.size)
theorem CVr.a{g o:Nat}{e:qI}{v:Unit}{w:World}(h:CVr g o e v w):w.cell? ⟨g,o,none⟩=some (.string ⟨e.name.toArray⟩)∧w.cell? ⟨g,o+1,none⟩=some (.int .i64 e.t.1)∧w.cell? ⟨g,o+2,none⟩=some (.bool e.t.2)∧w.cell? ⟨g,o+3,none⟩=some (.int .i64 e.size)∧True:=⟨h.c0,h.c1,h.c2,h.c3,trivial⟩
theorem CVr.move{g o:Nat}{e:qI}{v:Unit}{w w':World}(h:CVr g o e v w)(hg:w'.1[g]? = w.1[g]?):CVr g o e v w' :=
 ⟨(cB hg).trans h.c0,(cB hg).trans h.c1,(cB hg).trans h.c2,(cB hg).trans h.c3⟩
def qWx(B:Nat)(w:World)(es:List Ex)(q:Option Addr):Prop:=es=[]∨∃ g,q=some ⟨g,0,none⟩∧g < B∧g < w.1.size∧∀ i (h:i < es.length),∃ v,qQF w (· < B) es[i] v∧CEx g (i * 9) es[i] v w
theorem qU.at{B:Nat}{w:World}{es:List Ex}{v:Value}(h:qU w (· < B) es v):∃ q c,v=.slice q es.length c∧es.length≤maxLen∧qWx B w es q:=by
 obtain⟨vs,h1,h2,h3⟩:=h;have hlen:=yN.length es vs h3;rw[qP8]at h2;rcases h2.2 with⟨rfl,h0⟩ | ⟨g,cap,cur,rfl,_,hg,h4,h5,_⟩
 ·exact⟨none,0,by rw[h0],by unfold maxLen;omega, .inl (List.length_eq_zero_iff.1 h0)⟩
 ·refine⟨_,cap,rfl,by omega, .inr ⟨g,rfl,h1 g rfl,(h2.lt g rfl).2,fun i hi=>?_⟩⟩;have hj:i < vs.length:=by omega
  have hl:=yN.at h3 i hi hj;have hat:=fun(k:Nat) (u:Value) (hk:k < 9) (hu:(exC es[i] vs[i])[k]? = some u)=>qLn exC_len h2 (g:=g) rfl hi hj hk hu
  refine⟨vs[i],hl,?_⟩;generalize es[i]=e at *;obtain⟨op,t,n,va,gl,l,c,ks⟩:=e;exact⟨hat 0 _ (by omega) rfl,hat 1 _ (by omega) rfl,hat 2 _ (by omega) rfl,hat 3 _ (by omega) rfl,hat 4 _ (by omega) rfl,hat 5 _ (by omega) rfl,hat 6 _ (by omega) rfl,hat 7 _ (by omega) rfl,hat 8 _ (by omega) rfl⟩
theorem qQF.keep{B:Nat}{w w':World}{e:Ex}{v:Value}(h:qQF w (· < B) e v)(hb:Below B w w'):qQF w' (· < B) e v:=qQF.move (fun g _ hg=>⟨hg,hb.block g hg⟩) e v h
theorem qWx.keep{B:Nat}{w w':World}{es:List Ex}{q:Option Addr}(h:qWx B w es q)(hb:Below B w w'):qWx B w' es q:=by
 rcases h with h | ⟨g,h1,h2,h3,h4⟩
 ·exact .inl h
 ·exact .inr ⟨g,h1,h2,Nat.lt_of_lt_of_le h3 hb.size,fun i hi=>by obtain⟨v,a,b⟩:=h4 i hi;exact⟨v,a.keep hb,b.move (hb.block g h2)⟩⟩
theorem qQF.at{B:Nat}{w:World}{e:Ex}{v:Value}(h:qQF w (· < B) e v):∃ q c,v=.slice q e.kids.length c∧e.kids.length≤maxLen∧qWx B w e.kids q:=((qVr e v).1 h).at
def qVt(B:Nat)(w:World)(ss:List Sx)(q:Option Addr):Prop:=ss=[]∨∃ g,q=some ⟨g,0,none⟩∧g < B∧g < w.1.size∧∀ i (h:i < ss.length),∃ v,wL w (· < B) ss[i] v∧CSx g (i * 8) ss[i] v w
theorem jE.at{B:Nat}{w:World}{ss:List Sx}{v:Value}(h:jE w (· < B) ss v):∃ q c,v=.slice q ss.length c∧ss.length≤maxLen∧qVt B w ss q:=by
 obtain⟨vs,h1,h2,h3⟩:=h;have hlen:=yZ.length ss vs h3;rw[qP9]at h2;rcases h2.2 with⟨rfl,h0⟩ | ⟨g,cap,cur,rfl,_,hg,h4,h5,_⟩
 ·exact⟨none,0,by rw[h0],by unfold maxLen;omega, .inl (List.length_eq_zero_iff.1 h0)⟩
 ·refine⟨_,cap,rfl,by omega, .inr ⟨g,rfl,h1 g rfl,(h2.lt g rfl).2,fun i hi=>?_⟩⟩;have hj:i < vs.length:=by omega
  have hl:=yZ.at h3 i hi hj;have hat:=fun(k:Nat) (u:Value) (hk:k < 8) (hu:(sxC ss[i] vs[i])[k]? = some u)=>qLn sxC_len h2 (g:=g) rfl hi hj hk hu
  refine⟨vs[i],hl,?_⟩;generalize ss[i]=e at *;obtain⟨op,l,c,tg,es,fn,th,el⟩:=e;exact⟨hat 0 _ (by omega) rfl,hat 1 _ (by omega) rfl,hat 2 _ (by omega) rfl,hat 3 _ (by omega) rfl,hat 4 _ (by omega) rfl,hat 5 _ (by omega) rfl,hat 6 _ (by omega) rfl,hat 7 _ (by omega) rfl⟩
theorem wL.keep{B:Nat}{w w':World}{e:Sx}{v:qQg}(h:wL w (· < B) e v)(hb:Below B w w'):wL w' (· < B) e v:=wL.move (fun g _ hg=>⟨hg,hb.block g hg⟩) e v h
theorem qVt.keep{B:Nat}{w w':World}{ss:List Sx}{q:Option Addr}(h:qVt B w ss q)(hb:Below B w w'):qVt B w' ss q:=by
 rcases h with h | ⟨g,h1,h2,h3,h4⟩
 ·exact .inl h
 ·exact .inr ⟨g,h1,h2,Nat.lt_of_lt_of_le h3 hb.size,fun i hi=>by obtain⟨v,a,b⟩:=h4 i hi;exact⟨v,a.keep hb,b.move (hb.block g h2)⟩⟩
theorem wL.at{B:Nat}{w:World}{e:Sx}{v:qQg}(h:wL w (· < B) e v):∃ q1 c1 q2 c2 q3 c3 q4 c4,v=⟨.slice q1 e.target.length c1, .slice q2 e.exprs.length c2, .slice q3 e.thn.length c3, .slice q4 e.els.length c4⟩ ∧
 qWx B w e.target q1∧qWx B w e.exprs q2∧qVt B w e.thn q3∧qVt B w e.els q4∧e.target.length≤maxLen∧e.exprs.length≤maxLen∧e.thn.length≤maxLen∧e.els.length≤maxLen:=by
 obtain⟨op,l,c,tg,es,fn,th,el⟩:=e;obtain⟨h1,h2,h3,h4⟩:=h;obtain⟨q1,c1,e1,l1,a1⟩:=h1.at
 obtain⟨q2,c2,e2,l2,a2⟩:=h2.at
 obtain⟨q3,c3,e3,l3,a3⟩:=jE.at (ss:=th) h3;obtain⟨q4,c4,e4,l4,a4⟩:=jE.at (ss:=el) h4;obtain⟨tv,ev,hv,lv⟩:=v;simp only at e1 e2 e3 e4;subst e1 e2 e3 e4;exact⟨q1,c1,q2,c2,q3,c3,q4,c4,rfl,a1,a2,a3,a4,l1,l2,l3,l4⟩
def qYC(B:Nat)(w:World)(vs:List qI)(q:Option Addr):Prop:=vs=[]∨∃ g,q=some ⟨g,0,none⟩∧g < B∧g < w.1.size∧∀ i (h:i < vs.length),CVr g (i * 4) vs[i] () w
theorem qQI.at{B:Nat}{w:World}{vs:List qI}{v:Value}(h:qQI w 0 vs v)(hB:w.1.size≤B):∃ q c,v=.slice q vs.length c∧vs.length≤maxLen∧qYC B w vs q:=by
 have h2:w.ownsRow 0 42 4 v vs.length (xD qQe vs):=h;rcases h2.2 with⟨rfl,h0⟩ | ⟨g,cap,cur,rfl,_,hg,h4,h5,_⟩
 ·exact⟨none,0,by rw[h0],by unfold maxLen;omega, .inl (List.length_eq_zero_iff.1 h0)⟩
 ·refine⟨_,cap,rfl,by omega, .inr ⟨g,rfl,Nat.lt_of_lt_of_le (h2.lt g rfl).2 hB,(h2.lt g rfl).2,fun i hi=>?_⟩⟩;have hat:=fun(k:Nat) (u:Value) (hk:k < 4) (hu:(qQe vs[i])[k]? = some u)=>qQm qJ0 h2 (g:=g) rfl hi hk hu
  exact⟨hat 0 _ (by omega) rfl,hat 1 _ (by omega) rfl,hat 2 _ (by omega) rfl,hat 3 _ (by omega) rfl⟩
theorem qYC.keep{B:Nat}{w w':World}{vs:List qI}{q:Option Addr}(h:qYC B w vs q)(hb:Below B w w'):qYC B w' vs q:=by
 rcases h with h | ⟨g,h1,h2,h3,h4⟩
 ·exact .inl h
 ·exact .inr ⟨g,h1,h2,Nat.lt_of_lt_of_le h3 hb.size,fun i hi=>(h4 i hi).move (hb.block g h2)⟩
def FsAt(B:Nat)(w:World)(fs:List qQ2)(q:Option Addr):Prop:=fs=[]∨∃ g,q=some ⟨g,0,none⟩∧g < B∧g < w.1.size∧∀ i (h:i < fs.length),∃ qv cv qb cb,CFn g (i * 6) fs[i] ⟨.slice qv fs[i].vars.length cv, .slice qb fs[i].body.length cb⟩ w∧qYC B w fs[i].vars qv∧fs[i].vars.length≤64∧qVt B w fs[i].body qb∧fs[i].body.length≤maxLen
theorem FsAt.keep{B:Nat}{w w':World}{fs:List qQ2}{q:Option Addr}(h:FsAt B w fs q)(hb:Below B w w'):FsAt B w' fs q:=by
 rcases h with h | ⟨g,h1,h2,h3,h4⟩
 ·exact .inl h
 ·exact .inr ⟨g,h1,h2,Nat.lt_of_lt_of_le h3 hb.size,fun i hi=>by obtain⟨qv,cv,qb,cb,a,b,c,d,e⟩:=h4 i hi;exact⟨qv,cv,qb,cb,a.move (hb.block g h2),b.keep hb,c,d.keep hb,e⟩⟩
theorem outD_at:∀ (fs:List FnM) (bs:List (List Sx)) (i:Nat) (h:i < (qXt fs bs).length) (hf:i < fs.length),(qXt fs bs)[i]=mkD fs[i] (bs.getD i [])
 | f :: fs,b :: bs,0,_,_=>rfl
 | f :: fs,b :: bs,i+1,h,hf=>by
  simp only[qXt,List.getElem_cons_succ,List.getD_cons_succ];exact outD_at fs bs i (by simpa[qXt]using h) (by simpa using hf)
 | [],_,i,h,hf=>by simp at hf
 | _ :: _,[],i,h,_=>by simp[qXt]at h
structure qPb(B:Nat)(p:PrD)(gq fq:Option Addr)(w:World):Prop where
 gs:qYC B w p.globals gq
 fs:FsAt B w p.funcs fq
 gl:p.globals.length≤64
 fl:p.funcs.length≤16
 ma:∃ i:Nat,p.main=i∧i < p.funcs.length
theorem qPb.keep{B:Nat}{p:PrD}{gq fq:Option Addr}{w w':World}(h:qPb B p gq fq w)(hb:Below B w w'):qPb B p gq fq w':=⟨h.gs.keep hb,h.fs.keep hb,h.gl,h.fl,h.ma⟩
def prV(p:PrD)(gq fq:Option Addr)(gc fc:Nat):Value:=.agg #[.slice gq p.globals.length gc, .slice fq p.funcs.length fc, .int .i64 p.main]
theorem qZ2.at{lo:Nat}{p:PrD}{v:Value}{w:World}(h:qZ2 lo p v w):∃ gq gc fq fc,v=prV p gq fq gc fc∧qPb w.1.size p gq fq w:=by
 obtain⟨fs,bs,gv,fv,rfl,h1,h2,h3,h4,h5,h6,h7,h8,h9,i,h10,h11⟩:=h;have hfl:p.funcs.length=fs.length:=by rw[h4,qVf fs bs (by omega),h5]
 obtain⟨gq,gc,rfl,_,hg⟩:=h1.at (Nat.le_refl _);refine⟨gq,gc,?_⟩;have key:∃ fq fc,fv=.slice fq fs.length fc∧FsAt w.1.size w p.funcs fq:=by
  rcases h2.2 with⟨rfl,h0⟩ | ⟨g,cap,cur,rfl,_⟩
  ·exact⟨none,0,by rw[h0], .inl (List.length_eq_zero_iff.1 (by omega))⟩
  ·refine⟨_,cap,rfl, .inr ⟨g,rfl,(h2.lt g rfl).2,(h2.lt g rfl).2,fun j hj=>?_⟩⟩;have hjf:j < fs.length:=by omega
   obtain⟨qv,cv,ev,_,av⟩:=(h3 fs[j] (List.getElem_mem hjf)).at (Nat.le_refl _);have hb:=h6 j (by omega);rw[show fs.getD j noF=fs[j] by simp[List.getD_eq_getElem?_getD,hjf]]at hb;obtain⟨qb,cb,eb,lb,ab⟩:=jE.at (hb.move (ok':=(· < w.1.size)) (w':=w) (fun g hg _=>⟨hg,rfl⟩));have hc:=qZv h2 hjf;have hv64:=h9 fs[j] (List.getElem_mem hjf);have e:p.funcs[j]=mkD fs[j] (bs.getD j []):=by
    have:=outD_at fs bs j (by rw[qVf fs bs (by omega)];omega) hjf;simp only[h4];exact this
   rw[e];obtain⟨c0,c1,c2,c3,c4,c5⟩:=hc;rw[ev]at c4;rw[eb]at c5;exact⟨qv,cv,qb,cb,⟨c0,c1,c2,c3,c4,c5⟩,av,hv64,ab,lb⟩
 obtain⟨fq,fc,rfl,hf⟩:=key;exact⟨fq,fc,by rw[prV,hfl],hg,hf,h7,by omega,i,h10,by omega⟩
def qYi(a b:qI):Bool:=a.name == b.name && ((a.t.1 == b.t.1 && a.t.2 == b.t.2) && a.size == b.size)
def kC:List qI→List qI→Bool
 | [],us=>us.isEmpty
 | t :: ts,us=>match us with
  | []=>false
  | u :: us=>qYi t u && kC ts us
mutual
def qKs:Ex→Ex→Bool
 | .mk op t n v g l c ks,b=>op == b.op && ((t.1 == b.ty.1 && t.2 == b.ty.2) && (n == b.num && (v == b.var && (g == b.glob && (l == b.line && (c == b.col && yO ks b.kids))))))
def yO:List Ex→List Ex→Bool
 | [],us=>us.isEmpty
 | t :: ts,us=>match us with
  | []=>false
  | u :: us=>qKs t u && yO ts us
end
mutual
def qKu:Sx→Sx→Bool
 | .mk op l c tg es fn th el,b=>op == b.op && (l == b.line && (c == b.col && (fn == b.fn && (yO tg b.target && (yO es b.exprs && (yA th b.thn && yA el b.els))))))
def yA:List Sx→List Sx→Bool
 | [],us=>us.isEmpty
 | t :: ts,us=>match us with
  | []=>false
  | u :: us=>qKu t u && yA ts us
end
def qYf(a b:qQ2):Bool:=a.name == b.name && ((a.t.1 == b.t.1 && a.t.2 == b.t.2) && (a.params == b.params && (kC a.vars b.vars && yA a.body b.body)))
def wS:List qQ2→List qQ2→Bool
 | [],us=>us.isEmpty
 | t :: ts,us=>match us with
  | []=>false
  | u :: us=>qYf t u && wS ts us
def sameP(a b:PrD):Bool:=a.main == b.main && (kC a.globals b.globals && wS a.funcs b.funcs)
theorem qYj:∀ (ts us:List qI),kC ts us=true→ts.length=us.length
 | [],us,h=>by cases us with | nil=>rfl | cons u r=>simp[kC]at h
 | t :: ts,us,h=>by
  cases us with
  | nil=>simp[kC]at h
  | cons u r =>
   simp only[kC,bE]at h;simp[qYj ts r h.2]
theorem sameVL_at{ts us:List qI}{i:Nat}(h:i < ts.length)(h':i < us.length):kC (ts.drop i) (us.drop i)=(qYi ts[i] us[i] && kC (ts.drop (i+1)) (us.drop (i+1))):=by
 rw[List.drop_eq_getElem_cons h,List.drop_eq_getElem_cons h',kC]
theorem sameVL_end{ts us:List qI}{i:Nat}(h:¬i < ts.length)(hl:ts.length=us.length):kC (ts.drop i) (us.drop i)=true:=by
 rw[List.drop_eq_nil_of_le (by omega),List.drop_eq_nil_of_le (by omega),kC];rfl
theorem qYe:∀ (ts us:List Ex),yO ts us=true→ts.length=us.length
 | [],us,h=>by cases us with | nil=>rfl | cons u r=>simp[yO]at h
 | t :: ts,us,h=>by
  cases us with
  | nil=>simp[yO]at h
  | cons u r =>
   simp only[yO,bE]at h;simp[qYe ts r h.2]
theorem sameEL_at{ts us:List Ex}{i:Nat}(h:i < ts.length)(h':i < us.length):yO (ts.drop i) (us.drop i)=(qKs ts[i] us[i] && yO (ts.drop (i+1)) (us.drop (i+1))):=by
 rw[List.drop_eq_getElem_cons h,List.drop_eq_getElem_cons h',yO]
theorem sameEL_end{ts us:List Ex}{i:Nat}(h:¬i < ts.length)(hl:ts.length=us.length):yO (ts.drop i) (us.drop i)=true:=by
 rw[List.drop_eq_nil_of_le (by omega),List.drop_eq_nil_of_le (by omega),yO];rfl
theorem qYh:∀ (ts us:List Sx),yA ts us=true→ts.length=us.length
 | [],us,h=>by cases us with | nil=>rfl | cons u r=>simp[yA]at h
 | t :: ts,us,h=>by
  cases us with
  | nil=>simp[yA]at h
  | cons u r =>
   simp only[yA,bE]at h;simp[qYh ts r h.2]
theorem sameSL_at{ts us:List Sx}{i:Nat}(h:i < ts.length)(h':i < us.length):yA (ts.drop i) (us.drop i)=(qKu ts[i] us[i] && yA (ts.drop (i+1)) (us.drop (i+1))):=by
 rw[List.drop_eq_getElem_cons h,List.drop_eq_getElem_cons h',yA]
theorem sameSL_end{ts us:List Sx}{i:Nat}(h:¬i < ts.length)(hl:ts.length=us.length):yA (ts.drop i) (us.drop i)=true:=by
 rw[List.drop_eq_nil_of_le (by omega),List.drop_eq_nil_of_le (by omega),yA];rfl
theorem qYg:∀ (ts us:List qQ2),wS ts us=true→ts.length=us.length
 | [],us,h=>by cases us with | nil=>rfl | cons u r=>simp[wS]at h
 | t :: ts,us,h=>by
  cases us with
  | nil=>simp[wS]at h
  | cons u r =>
   simp only[wS,bE]at h;simp[qYg ts r h.2]
theorem sameFL_at{ts us:List qQ2}{i:Nat}(h:i < ts.length)(h':i < us.length):wS (ts.drop i) (us.drop i)=(qYf ts[i] us[i] && wS (ts.drop (i+1)) (us.drop (i+1))):=by
 rw[List.drop_eq_getElem_cons h,List.drop_eq_getElem_cons h',wS]
theorem sameFL_end{ts us:List qQ2}{i:Nat}(h:¬i < ts.length)(hl:ts.length=us.length):wS (ts.drop i) (us.drop i)=true:=by
 rw[List.drop_eq_nil_of_le (by omega),List.drop_eq_nil_of_le (by omega),wS];rfl
theorem sameV_refl(a:qI):qYi a a=true:=by simp[qYi]
theorem qJU:∀ l:List qI,kC l l=true
 | []=>rfl
 | a :: r=>by simp only[kC,bE];exact⟨sameV_refl a,qJU r⟩
mutual
theorem sameE_refl:∀ e:Ex,qKs e e=true
 | .mk op t n v g l c ks=>by
  have:=qJT ks;simp[qKs,Ex.op,Ex.ty,Ex.num,Ex.var,Ex.glob,Ex.line,Ex.col,Ex.kids,this]
theorem qJT:∀ l:List Ex,yO l l=true
 | []=>rfl
 | a :: r=>by simp only[yO,bE];exact⟨sameE_refl a,qJT r⟩
end
mutual
theorem sameS_refl:∀ e:Sx,qKu e e=true
 | .mk op l c tg es fn th el=>by
  have h1:=qXO th;have h2:=qXO el;simp[qKu,Sx.op,Sx.line,Sx.col,Sx.target,Sx.exprs,Sx.fn,Sx.thn,Sx.els,qJT,h1,h2]
theorem qXO:∀ l:List Sx,yA l l=true
 | []=>rfl
 | a :: r=>by simp only[yA,bE];exact⟨sameS_refl a,qXO r⟩
end
theorem sameF_refl(a:qQ2):qYf a a=true:=by simp[qYf,qJU,qXO]
theorem qWc:∀ l:List qQ2,wS l l=true
 | []=>rfl
 | a :: r=>by simp only[wS,bE];exact⟨sameF_refl a,qWc r⟩
theorem sameP_refl(p:PrD):sameP p p=true:=by simp[sameP,qJU,qWc]
def xM(b:Bool)(w:World)(e:Ending)(w':World):Prop:=e=.returned (.bool b)∧Below w.1.size w w'
theorem kidE_size{t:Ex}{ks:List Ex}(h:t∈ks)(op:List UInt8)(ty:Ty)(n v:Int)(g:Bool)(l c:Int):SizeOf.sizeOf t < SizeOf.sizeOf (Ex.mk op ty n v g l c ks):=by
 have:=List.sizeOf_lt_of_mem h;simp only[Ex.mk.sizeOf_spec];omega
theorem thn_size{t:Sx}{e:Sx}(h:t∈e.thn):SizeOf.sizeOf t < SizeOf.sizeOf e:=by
 obtain⟨op,l,c,tg,es,fn,th,el⟩:=e;have:=List.sizeOf_lt_of_mem (show t∈th from h);simp only[Sx.mk.sizeOf_spec];omega
theorem els_size{t:Sx}{e:Sx}(h:t∈e.els):SizeOf.sizeOf t < SizeOf.sizeOf e:=by
 obtain⟨op,l,c,tg,es,fn,th,el⟩:=e;have:=List.sizeOf_lt_of_mem (show t∈el from h);simp only[Sx.mk.sizeOf_spec];omega
end Go.Proofs.YtiajhekdhhhghaaGreatDoor
