/- Walks. -/
import Derived.OrdersHeld
import Derived.Deep.RegionHeld
import Derived.Test.YtiajhekdhhhghaaGreatDoorMaa
set_option linter.all false
set_option maxHeartbeats 8000000
set_option maxRecDepth 100000
namespace Go.Proofs.YtiajhekdhhhghaaGreatDoor
open Tryz
open Go Go.RowKit
theorem qUQ(s:ByteArray)(w:World)(hs:s.size<=65536)(ht:qZO w):Calls prog 8 #[.string s] w (qXM s w):=by
 have hC:=hI (qY1 s w hs);have HT:=hI ht;clear ht;obtain⟨i0,hi,hz0,hz1,hz2⟩:=info_parts info49;have HI:=hI hi;have HZ0:=hI hz0;have HZ1:=hI hz1;have HZ2:=hI hz2;clear hi hz0 hz1 hz2;go_enter func8,ntmps8
 go_wp2_with (go_at_call 18;refine(hC.o).mono ?_;rintro e w1 ⟨rfl,hb⟩)
 have hB1:w.1.size<=w1.1.size:=hb.size;go_loopw [7] (fun v wr=>LexRel s w w1.1.size v wr) (fun _ wr=>qWs w1.1.size wr)
 case atStart =>
  refine⟨s,1,1,[],⟨⟨?_,?_,?_,?_,?_,?_⟩,hs,by decide,by decide,by omega,by omega⟩,?_,World.ownsRow_nil _ _ _ _,by simp,(hb.alloc (by omega) _)⟩
  ·simp[go_sem]
  ·simp[go_sem]
  ·simp[go_sem]
  ·simp[go_sem]
  ·simp[go_sem]
  ·simp[go_sem]
  ·cases qQD s.data.toList 1 1 <;> simp[Res.pre]
 case round =>
  obtain⟨r,ln,c,acc,hR,hk,hown,hcnt,hbl⟩:=hrel;have hlt:=hR.at_.lt;have hrest:=hI hR.at_.rest;have HS:=hI (skip_any w1.1.size r ln c wr hR);have HK:=hI hk;clear hk hR hb;go_wp2_with fail
  refine(HS.o).mono ?_;rintro e w2 ⟨rfl,r2,ln2,c2,hR2,hk2,hle2,hg2⟩;obtain⟨hown2,hbl2⟩:=qVa hB1 hlt hown hbl hg2;have hlt2:w1.1.size < w2.1.size:=hR2.at_.lt;have HK2:=hI hk2;have hsg:=hI (HT.o.below hbl2);clear hown hbl hg2 hk2 hlt HS hC;by_cases h0:r2.size=0
  ·obtain rfl:=nil_of h0;have HTk:=hI (token_end w1.1.size ln2 c2 w2 hR2.at_);have hlex:=hI (lex_end HK2.o);clear h0 hR2;go_wp2_with fail
   refine(HTk.o).mono ?_;rintro e w3 ⟨rfl,hA3,hg3⟩;obtain⟨hown3,hbl3⟩:=qVa hB1 hlt2 hown2 hbl2 hg3;have hlt3:=hA3.lt;have HA3:=hI hA3;clear hA3 hg3 hown2 hbl2 HTk;unfold xA;go_wp2_with (at_builtin;refine wpList_append_own _ rfl _ _ 23 rfl (w1.1.size+1) 49 i0 (.agg #[.int .i64 0, .string ⟨#[]⟩, .int .u64 0, .int .i64 0, .int .i64 0]) 5 48 underlying23 HI.o HZ0.o HZ1.o HZ2.o rfl (by decide) _ _ _ rfl ((hown3.alloc _).alloc _) ⟨w3.1.size+1,0,none⟩ 1 1 (qWn ⟨3,[],0,ln2,c2⟩) rfl rfl ?c1 (qLi _) ?c3 ?c4 ?c5 ?_)
   case c1=>exact qLh _ _ ⟨3,[],0,ln2,c2⟩ (by simp) _
   case c3=>unfold maxLen;omega
   case c4=>omega
   case c5=>simp;omega
   intro v4 w4 hown4 hg4 _;obtain⟨hbl4,hrd4,hc4⟩:=qUb hB1 hlt3 hown3 hbl3 hg4;have hk4:w4.cell? ⟨w3.1.size,0,none⟩=some (.int .i64 3):=(hc4 0).trans (by simp[go_sem]);have HO4:=hI hown4;clear hc4 hg4 hrd4 hown4 hown3;go_wp2
   exact bodyPost_ret (v:=.tuple #[v4, .int .i64 0, .int .i64 0, .int .i64 0]) (by simp[results,results8,go_sem]) rfl
    (post_end hB1 (by rw[<-HK.o,hlex.o];rfl) rfl HO4.o hbl4)
  ·have h0':0 < r2.size:=by omega
   have hne:=pos_ne h0';by_cases he:wK r2.data.toList=0
   ·have HTk:=hI (token_ok w1.1.size r2 ln2 c2 w2 hR2 hsg.o h0' he);have hlex:=hI (lex_tok HK2.o hne he);have hfp:=qQW he;have hfl:=wG r2.data.toList;have hsl:=hI (qQQ r2);have hkb:=qY9 r2.data.toList;have HR2:=hI hR2;clear h0 hR2 hne he;go_wp2_with fail
    refine(HTk.o).mono ?_;rintro e w3 ⟨rfl,hA3,hg3⟩;obtain⟨hown3,hbl3⟩:=qVa hB1 hlt2 hown2 hbl2 hg3;have hlt3:=hA3.lt;have HA3:=hI hA3;have HF:=hI (HR2.o.take (by rw[hsl.o];exact hfl) hA3);have hTK:(qJX r2.data.toList ln2 c2).kind=vA r2.data.toList:=rfl;clear hA3 hg3 hown2 hbl2 HTk;generalize qJX r2.data.toList ln2 c2=tk at *;have h3:(tk.kind == 3)=false:=by rw[hTK];simp;omega
    clear hTK hkb;unfold vT xA;go_wp2_with (at_builtin;refine wpList_append_own _ rfl _ _ 23 rfl (w1.1.size+1) 49 i0 (.agg #[.int .i64 0, .string ⟨#[]⟩, .int .u64 0, .int .i64 0, .int .i64 0]) 5 48 underlying23 HI.o HZ0.o HZ1.o HZ2.o rfl (by decide) _ _ _ rfl ((hown3.alloc _).alloc _) ⟨w3.1.size+1,0,none⟩ 1 1 (qWn tk) rfl rfl ?d1 (qLi _) ?d3 ?d4 ?d5 ?_)
    case d1=>exact qLh _ _ tk (by simp) _
    case d3=>unfold maxLen;omega
    case d4=>omega
    case d5=>simp;omega
    intro v4 w4 hown4 hg4 _;obtain⟨hbl4,hrd4,hc4⟩:=qUb hB1 hlt3 hown3 hbl3 hg4;have hk4:w4.cell? ⟨w3.1.size,0,none⟩=some (.int .i64 tk.kind):=(hc4 0).trans (by simp[go_sem]);have HO4:=hI hown4;have HRD:=hI hrd4;clear hc4 hg4 hrd4 hown4 hown3;go_wp2
    go_roundw
    case rel =>
     refine⟨_,_,_,acc++[tk],⟨HRD.o _ _ _ HF.o.at_,HF.o.hs,HF.o.l1,HF.o.c1,HF.o.l2,HF.o.c2⟩,?_,?_,?_,hbl4⟩
     ·rw[<-HK.o,hlex.o,pre_cons,Lib.extract_to_end]
     ·rw[qYu,lL];exact HO4.o
     ·rw[lL,kM];simp;omega
    case measure =>
     rw[(HRD.o _ _ _ HF.o.at_).rest,hrest.o,kM];omega
   ·have HTk:=hI (token_no w1.1.size r2 ln2 c2 w2 hR2 hsg.o h0' he);have hlex:=hI (lex_bad HK2.o hne he);have hcode:=qU7 he;generalize wK r2.data.toList=code at *;have hco:(code != 0)=true:=by simp;omega
    clear h0 hR2 hne he;go_wp2_with fail
    refine(HTk.o).mono ?_;rintro e w3 ⟨k3,t3,m3,rfl,hg3⟩;obtain⟨hown3,hbl3⟩:=qVa hB1 hlt2 hown2 hbl2 hg3;have hlt3:w1.1.size < w3.1.size:=Nat.lt_of_lt_of_le hlt2 hg3.size;clear hg3 hown2 hbl2 HTk hown3;unfold xA;go_wp2
    go_region
    go_wp2
    exact bodyPost_ret (v:=.tuple #[.slice none 0 0, .int .i64 ln2, .int .i64 c2, .int .i64 code]) (by simp[results,results8,go_sem]) rfl
     (post_bad (by rw[<-HK.o,hlex.o];rfl) rfl ((hbl3.alloc (by omega) _).drew))
theorem tokCs_at(l:List Tok)(i k:Nat)(hk:k < 5)(hi:i < l.length):(qJW l)[i * 5+k]? = (qWn l[i])[k]?:=by
 induction l generalizing i with
 | nil=>simp at hi
 | cons t r ih =>
  have hc:qJW (t :: r)=qWn t++qJW r:=rfl;have hlen:(qWn t).length=5:=rfl;rw[hc];cases i with
  | zero =>
   rw[List.getElem?_append_left (by omega)];simp
  | succ i =>
   rw[List.getElem?_append_right (by omega),hlen];have:=ih i (by simpa using hi);have e:(i+1) * 5+k - 5=i * 5+k:=by omega
   rw[e,this];simp
structure qKU(g i:Nat)(t:Tok)(w:World):Prop where
 fk:w.cell? ⟨g,i * 5,none⟩=some (.int .i64 t.kind)
 ft:w.cell? ⟨g,i * 5+1,none⟩=some (.string ⟨t.text.toArray⟩)
 fm:w.cell? ⟨g,i * 5+2,none⟩=some (.int .u64 t.num)
 fl:w.cell? ⟨g,i * 5+3,none⟩=some (.int .i64 t.line)
 fc:w.cell? ⟨g,i * 5+4,none⟩=some (.int .i64 t.col)
def qYR(g:Nat)(l:List Tok)(w:World):Prop:=∀ i (h:i < l.length),qKU g i l[i] w
theorem qUr{w:World}{N:Nat}{v:Value}{l:List Tok}(h:w.ownsRow N 49 5 v l.length (qJW l))(hl:0 < l.length) :
 ∃ g cap,v=.slice (some ⟨g,0,none⟩) l.length cap/\N<=g/\g < w.1.size/\l.length<=cap/\qYR g l w:=by
 have h':=h;rcases h.2 with⟨_,h0⟩ | ⟨g,cap,cur,rfl,hg,hb,hnc,_⟩
 ·omega
 ·have hlt:g < w.1.size:=by
   by_cases hh:g < w.1.size
   ·exact hh
   ·rw[Array.getElem?_eq_none (by omega)]at hb;cases hb
  refine⟨g,cap,rfl,hg,hlt,hnc,fun i hi=>?_⟩;have hj:∀ k,k < 5->w.cell? ⟨g,i * 5+k,none⟩=(qWn l[i])[k]?:=fun k hk=>by
   rw[h'.cellAt (i * 5+k) (by omega)];exact tokCs_at l i k hk hi
  exact⟨hj 0 (by omega),hj 1 (by omega),hj 2 (by omega),hj 3 (by omega),hj 4 (by omega)⟩
theorem qKU.below{g i:Nat}{t:Tok}{w w':World}{N:Nat}(h:qKU g i t w)(hb:Below N w w')(hg:g < N):qKU g i t w' :=
 ⟨(hb.cell hg).trans h.fk,(hb.cell hg).trans h.ft,(hb.cell hg).trans h.fm,(hb.cell hg).trans h.fl,(hb.cell hg).trans h.fc⟩
theorem qYR.below{g:Nat}{l:List Tok}{w w':World}{N:Nat}(h:qYR g l w)(hb:Below N w w')(hg:g < N):qYR g l w':=fun i hi=>(h i hi).below hb hg
open Go
section
variable {P:Program} {ops:Array Oper} {Q:Exit->Act->World->Prop} {md:Region.Mode} {S:World->Prop} {tail:Nat->Bool}
def vR(P:Program)(md:Region.Mode)(ops:Array Oper)(Q:Exit->Act->World->Prop)(S:World->Prop)(tail:Nat->Bool):Nat->Array Bool->Act->World->Prop
 | 0,listed,a,w=>Region.ready md ops listed=[]/\Q .normal a w
 | fuel+1,listed,a,w =>
  (Region.ready md ops listed=[]->Q .normal a w) /\
  ∀ i∈Region.ready md ops listed,wpOp P ops Q i (fun a' w'=>(tail i=false->S w')/\vR P md ops Q S tail fuel (listed.setIfInBounds i true) a' w') a w
theorem qYy:∀ (fuel:Nat) (listed:Array Bool) (a:Act) (w:World),vR P md ops Q S tail fuel listed a w->wpAny P md ops Q fuel listed a w
 | 0,_,_,_,h=>h
 | fuel+1,_,_,_,h=>⟨h.1,fun i hi=>wpOp_mono (fun a' w' h'=>qYy fuel _ a' w' h'.2) (h.2 i hi)⟩
theorem wW{id:Nat}{a:Act}{w:World}(hm:P.follows .mixedOrders=true)
 (h:vR P .any ops Q S tail ops.size (Array.replicate ops.size false) a { w with drawn:=w.drawn+1 }):(Code.region id ops true).wp P Q a w :=
 wp_region_any hm (qYy _ _ _ _ h)
def qKB(md:Region.Mode)(ops:Array Oper)(i:Nat):Nat->Nat->Bool
 | 0,_=>false
 | n+1,j=>((ops[j]?).map fun o=>o.after.any fun e=>Region.binds md e && (e.on == i || qKB md ops i n e.on)).getD false
def qXz(md:Region.Mode)(ops:Array Oper)(tail:Nat->Bool)(i:Nat):Bool:=(List.range ops.size).all fun j=>!tail j || qKB md ops i ops.size j
def qZM(md:Region.Mode)(ops:Array Oper)(listed:Array Bool):Bool :=
 (List.range ops.size).all fun j=>!listed.getD j false || ((ops[j]?).map fun o=>o.after.all fun e=>!Region.binds md e || listed.getD e.on false).getD false
theorem shut_at{listed:Array Bool}(h:qZM md ops listed=true){j:Nat}{o:Oper}(ho:ops[j]? = some o)(hl:listed.getD j false=true):∀ e∈o.after,Region.binds md e=true->listed.getD e.on false=true:=by
 intro e he hb;unfold qZM at h;rw[List.all_eq_true]at h;have:=h j (by simpa using(Array.getElem?_eq_some_iff.1 ho).1);rw[hl,ho]at this;simp only[bM,bO,Option.map_some,Option.getD_some,Array.all_eq_true']at this;have:=this e he;rw[hb]at this;simpa using this
theorem qYE{i:Nat}{listed:Array Bool}(h:qZM md ops listed=true):∀ (n j:Nat) (o:Oper),ops[j]? = some o->(∀ e∈o.after,Region.binds md e=true->listed.getD e.on false=true)->qKB md ops i n j=true->listed.getD i false=true:=by
 intro n;induction n with
 | zero=>intro j o _ _ hb;simp[qKB]at hb
 | succ n ih =>
  intro j o ho hall hb;rw[qKB,ho]at hb;simp only[Option.map_some,Option.getD_some,Array.any_eq_true']at hb;obtain⟨e,he,h2⟩:=hb;simp only[bE,Bool.or_eq_true,beq_iff_eq]at h2;have h3:=hall e he h2.1;rcases h2.2 with h4 | h4
  ·rw[<-h4];exact h3
  ·cases ho2:ops[e.on]? with
   | none =>
    cases n with
    | zero=>simp[qKB]at h4
    | succ n=>simp[qKB,ho2]at h4
   | some o2=>exact ih e.on o2 ho2 (shut_at h ho2 h3) h4
theorem qYs{i j:Nat}{listed:Array Bool}(hb:qXz md ops tail i=true)(ho:qZM md ops listed=true)(hi:listed.getD i true=false)(hj:j∈Region.ready md ops listed):tail j=false:=by
 obtain⟨hjun,oj,hoj,hall⟩:=mem_ready.1 hj;have hjs:j < ops.size:=(Array.getElem?_eq_some_iff.1 hoj).1;cases ht:tail j with
 | false=>rfl
 | true =>
  exfalso;unfold qXz at hb;rw[List.all_eq_true]at hb;have h1:=hb j (by simpa using hjs);rw[ht]at h1;have h2:=qYE ho ops.size j oj hoj hall (by simpa using h1);rcases Nat.lt_or_ge i listed.size with h' | h'
  ·simp[h']at h2 hi;rw[h2]at hi;cases hi
  ·simp[Array.getElem?_eq_none h']at h2
theorem shut_set{j:Nat}{listed:Array Bool}(ho:qZM md ops listed=true)(hj:j∈Region.ready md ops listed):qZM md ops (listed.setIfInBounds j true)=true:=by
 obtain⟨hjun,oj,hoj,hall⟩:=mem_ready.1 hj;unfold qZM;rw[List.all_eq_true];intro k hk;have hks:k < ops.size:=by simpa using hk
 obtain⟨ok,hok⟩:∃ ok,ops[k]? = some ok:=⟨ops[k],Array.getElem?_eq_getElem hks⟩;by_cases hl:(listed.setIfInBounds j true).getD k false=true
 ·rw[hl,hok];simp only[bM,bO,Option.map_some,Option.getD_some,Array.all_eq_true'];intro e he;by_cases hb:Region.binds md e=true
  ·rw[hb];simp only[bM,bO];refine getD_set_true ?_;by_cases hjk:j=k
   ·subst hjk;rw[hoj]at hok;cases hok;exact hall e he hb
   ·rw[getD_set_ne false hjk]at hl;exact shut_at ho hok hl e he hb
  ·simp[hb]
 ·simp[hl]
theorem qVp{i:Nat}{oi:Oper}{v:Value}(hi:ops[i]? = some oi)(hsel:∀ (j:Nat) (o:Oper) cs b,ops[j]? = some o->o.op≠.select cs b)
 (hQ:∀ c a w,Q (.panic c) (a.put oi.dst v) w->Q (.panic c) a w) (htb:qXz md ops tail i=true) (hti:tail i=false) :
 ∀ (fuel:Nat) (listed:Array Bool) (a:Act) (w:World),
  (∀ j oj,ops[j]? = some oj->j≠i->listed.getD j true=false->(∀ e∈oj.after,Region.binds md e=true->e.on≠i)->oi.apart ops oj=true) ->
  qZM md ops listed=true->i∈Region.ready md ops listed->YieldsIf P ops S oi v a->S w ->
  vR P md ops Q S tail fuel (listed.setIfInBounds i true) (a.put oi.dst v) w->vR P md ops Q S tail (fuel+1) listed a w:=by
 intro fuel;induction fuel with
 | zero =>
  intro listed a w _ _ hr hy hS H;refine⟨fun h=>(by rw[h]at hr;cases hr),fun j hj=>?_⟩;by_cases hji:j=i
  ·subst hji;exact hy.wpOp hi hS ⟨fun _=>hS,H⟩
  ·have:=ready_mono hj hji;rw[H.1]at this;cases this
 | succ fuel ih =>
  intro listed a w hfree hop hr hy hS H;refine⟨fun h=>(by rw[h]at hr;cases hr),fun j hj=>?_⟩;by_cases hji:j=i
  ·subst hji;exact hy.wpOp hi hS ⟨fun _=>hS,H⟩
  ·have htj:=qYs htb hop (mem_ready.1 hr).1 hj;have h1:=H.2 j (ready_mono hj hji);obtain⟨hjun,oj,hoj,hall⟩:=mem_ready.1 hj;have hnot:∀ e∈oj.after,Region.binds md e=true->e.on≠i:=fun e he hb heq=>by
    have h1:=hall e he hb;have h0:=(mem_ready.1 hr).1;rw[heq]at h1;rcases Nat.lt_or_ge i listed.size with h' | h'
    ·simp[h']at h0 h1;rw[h0]at h1;cases h1
    ·simp[Array.getElem?_eq_none h']at h1
   have h2:=wpOp_putIf hoj (hfree j oj hoj hji hjun hnot) (fun cs b=>hsel i oi cs b hi) (fun cs b=>hsel j oj cs b hoj) hQ hy h1;have hfree':∀ k ok,ops[k]? = some ok->k≠i->(listed.setIfInBounds j true).getD k true=false ->
    (∀ e∈ok.after,Region.binds md e=true->e.on≠i)->oi.apart ops ok=true:=fun k ok hk hki hun hno=>by
    refine hfree k ok hk hki ?_ hno;by_cases hjk:j=k
    ·subst hjk;exact hjun
    ·rw[getD_set_ne true hjk]at hun;exact hun
   refine wpOp_mono (fun a' w' h3=>⟨h3.2.1,ih (listed.setIfInBounds j true) a' w' hfree' (shut_set hop hj) (ready_mono hr (Ne.symm hji)) h3.1 (h3.2.1 htj) ?_⟩) h2;rw[Array.setIfInBounds_comm _ _ hji];exact h3.2.2
theorem wpAnyT_take{i d:Nat}{oi:Oper}{v:Value}{fuel:Nat}{listed:Array Bool}{a:Act}{w:World}(hi:ops[i]? = some oi)(hd:oi.dst=some d)
 (hs:(Region.noSelect ops && Region.free md ops listed i && (Region.ready md ops listed).contains i && qXz md ops tail i && qZM md ops listed && !tail i)=true)
 (hQ:∀ c a w,Q (.panic c) (a.put oi.dst v) w->Q (.panic c) a w) (hw:Region.wanted oi (yielded ops a.tmps)=true) (hy:∀ w,S w->(execOp a.eval oi).run P w=.ok (.value v) w) (hS:S w)
 (h:vR P md ops Q S tail fuel (listed.setIfInBounds i true) (a.put (some d) v) w):vR P md ops Q S tail (fuel+1) listed a w:=by
 simp only[bE,Bool.not_eq_true']at hs;exact qVp hi (Region.noSelect_spec hs.1.1.1.1.1) hQ hs.1.1.2 hs.2 fuel listed a w (Region.free_spec hi hs.1.1.1.1.2) hs.1.2 (by simpa using hs.1.1.1.2) (.inl ⟨hw,hy⟩) hS (by rw[hd];exact h)
theorem wpAnyT_one{i:Nat}{o:Oper}{fuel:Nat}{listed:Array Bool}{a:Act}{w:World}(hi:ops[i]? = some o)(hr:Region.ready md ops listed=[i])(hw:Region.wanted o (yielded ops a.tmps)=true)
 (h:∀ K:Act->World->Prop,Shut (∀ a' w',(tail i=false->S w')->vR P md ops Q S tail fuel (listed.setIfInBounds i true) a' w'->K a' w')->o.wp P a w K Q):vR P md ops Q S tail (fuel+1) listed a w:=by
 refine⟨fun h0=>(by rw[hr]at h0;cases h0),fun j hj=>?_⟩;rw[hr]at hj;obtain rfl:j=i:=by simpa using hj
 unfold wpOp;simp only[hi,hw,if_true];exact .inl (h _ (fun a' w' h1 h2=>⟨h1,h2⟩))
theorem wpAnyT_done{listed:Array Bool}{a:Act}{w:World}(hr:Region.ready md ops listed=[])(h:Q .normal a w) :
 ∀ fuel,vR P md ops Q S tail fuel listed a w
 | 0=>⟨hr,h⟩
 | _+1=>⟨fun _=>h,by rw[hr];simp⟩
end
section
variable {P:Program} {ops:Array Oper} {Q:Exit->Act->World->Prop} {md:Region.Mode} {S:World->Prop} {tail:Nat->Bool}
theorem wTk(i d:Nat)(v:Value){oi:Oper}{fuel:Nat}{listed:Array Bool}{a:Act}{w:World}(hy:∀ w,S w->(execOp a.eval oi).run P w=.ok (.value v) w)(hS:S w)
 {a':Act} (h:vR P md ops Q S tail fuel (listed.setIfInBounds i true) a' w) (ha:a.put (some d) v=a':=by first | (simp only[Act.put,pZa,pZb,pZc];done) | (simp only[Act.put,pZa,pZb,pZc];rfl) | rfl) (hi:ops[i]? = some oi:=by rfl) (hd:oi.dst=some d:=by rfl)
 (hs:(Region.noSelect ops && Region.free md ops listed i && (Region.ready md ops listed).contains i && qXz md ops tail i && qZM md ops listed && !tail i)=true:=by kernel_rfl)
 (hQ:∀ c a w,Q (.panic c) (a.put oi.dst v) w->Q (.panic c) a w:=by exact fun _ _ _ h=>h) (hw:Region.wanted oi (yielded ops a.tmps)=true:=by rfl):vR P md ops Q S tail (fuel+1) listed a w :=
 wpAnyT_take hi hd hs hQ hw hy hS (ha ▸ h)
theorem wOn(i:Nat){o:Oper}{fuel:Nat}{listed:Array Bool}{a:Act}{w:World}
 (h:∀ K:Act->World->Prop,Shut (∀ a' w',(tail i=false->S w')->vR P md ops Q S tail fuel (listed.setIfInBounds i true) a' w'->K a' w')->o.wp P a w K Q)
 (hi:ops[i]? = some o:=by rfl) (hr:Region.ready md ops listed=[i]:=by kernel_rfl) (hw:Region.wanted o (yielded ops a.tmps)=true:=by rfl):vR P md ops Q S tail (fuel+1) listed a w :=
 wpAnyT_one hi hr hw h
theorem kK{b:Bool}{fuel:Nat}{L:Array Bool}{K:Act->World->Prop}(hK:Shut (∀ a' w',(b=false->S w')->vR P md ops Q S tail fuel L a' w'->K a' w')){a a':Act}{w:World}(hS:S w)
 (h:vR P md ops Q S tail fuel L a' w) (ha:a=a':=by first | (simp only[Act.put,pZa,pZb,pZc];done) | (simp only[Act.put,pZa,pZb,pZc];rfl) | rfl):K a w:=by
 subst ha;exact hK.out _ _ (fun _=>hS) h
theorem kD{b:Bool}{fuel:Nat}{L:Array Bool}{K:Act->World->Prop}(hK:Shut (∀ a' w',(b=false->S w')->vR P md ops Q S tail fuel L a' w'->K a' w')){a a':Act}{w:World}
 (h:vR P md ops Q S tail fuel L a' w) (ha:a=a':=by first | (simp only[Act.put,pZa,pZb,pZc];done) | (simp only[Act.put,pZa,pZb,pZc];rfl) | rfl) (ht:b=true:=by decide):K a w:=by
 subst ha;exact hK.out _ _ (fun h=>absurd (ht.symm.trans h) (by decide)) h
theorem wDn{listed:Array Bool}{a:Act}{w:World}(h:Q .normal a w)(fuel:Nat)(hr:Region.ready md ops listed=[]:=by kernel_rfl):vR P md ops Q S tail fuel listed a w:=wpAnyT_done hr h fuel
theorem wRg(t:Nat){id:Nat}{a:Act}{w:World}(h:vR P .any ops Q S (fun i=>decide (t<=i)) ops.size (Array.replicate ops.size false) a w.drew)(hm:P.follows .mixedOrders=true:=by kernel_rfl):(Code.region id ops true).wp P Q a w :=
 wW hm h
end
def qQw:List (List UInt8):=[[98,111,111,108],[117,56],[117,49,54],[117,51,50],[117,54,52],[105,56],[105,49,54],[105,51,50],[105,54,52]]
def qKT(lo:Nat)(w:World):Prop:=6 < lo/\lo<=w.1.size/\(∃ b off cap,qZ0 6 19 qZ3 b off cap w/\b < lo)/\∃ b off cap,qZ0 5 9 qQw b off cap w/\b < lo
theorem qZ0.under{g n b off cap lo:Nat}{L:List (List UInt8)}{w w':World}(h:qZ0 g n L b off cap w)(hb:Below lo w w')(hg:g < lo)(hb2:b < lo):qZ0 g n L b off cap w' :=
 ⟨(hb.cell hg).trans h.tg,fun i hi=>(hb.cell hb2).trans (h.tn i hi)⟩
theorem qKT.under{lo:Nat}{w w':World}(h:qKT lo w)(hb:Below lo w w'):qKT lo w':=by
 obtain⟨h0,h1,⟨b,off,cap,h2,h3⟩,⟨b',off',cap',h4,h5⟩⟩:=h;exact⟨h0,Nat.le_trans h1 hb.size,⟨b,off,cap,h2.under hb (by omega) h3,h3⟩,⟨b',off',cap',h4.under hb (by omega) h5,h5⟩⟩
theorem qKT.keys{lo:Nat}{w:World}(h:qKT lo w):Keys w:=by
 obtain⟨h0,h1,⟨b,off,cap,h2,h3⟩,_⟩:=h;exact⟨b,off,cap,h2⟩
def qWD(w:World):Prop:=∃ b off cap,qZ0 5 9 qQw b off cap w
theorem qKT.types{lo:Nat}{w:World}(h:qKT lo w):qWD w:=by
 obtain⟨h0,h1,_,⟨b,off,cap,h2,h3⟩⟩:=h;exact⟨b,off,cap,h2⟩
def qZY:List Tok->Prop
 | []=>False
 | [e]=>e.kind=3/\e.text=[]
 | t :: r=>t.text≠[]/\qZY r
theorem qZY.ne{l:List Tok}(h:qZY l):∃ t r,l=t :: r:=by
 cases l with
 | nil=>exact h.elim
 | cons t r=>exact⟨t,r,rfl⟩
theorem qZY.tail{t:Tok}{r:List Tok}(h:qZY (t :: r))(ht:t.text≠[]):qZY r:=by
 cases r with
 | nil=>exact absurd h.2 ht
 | cons u r=>exact h.2
theorem qKU.grown{g i:Nat}{t:Tok}{w w':World}{r:Option Nat}(h:qKU g i t w)(hg:w.grownBy w' r)(hne:some g≠r):qKU g i t w' :=
 ⟨hg.cell h.fk hne,hg.cell h.ft hne,hg.cell h.fm hne,hg.cell h.fl hne,hg.cell h.fc hne⟩
structure qWz(lo B T o c:Nat)(l:List Tok)(d:Int)(w:World):Prop where
 c0:w.cell? ⟨B,0,none⟩=some (.slice (some ⟨T,o * 5,none⟩) l.length c)
 c1:w.cell? ⟨B,1,none⟩=some (.int .i64 d)
 f0:w.frozen? ⟨B,0,none⟩=false
 f1:w.frozen? ⟨B,1,none⟩=false
 row:∀ k (h:k < l.length),qKU T (o+k) l[k] w
 ends:qZY l
 hT:T < B
 hc:l.length<=c
 hm:c<=maxLen
 hl:l.length<=70000
 ht:∀ t∈l,t.text.length<=65536
 hd:0<=d/\d<=60
 tab:qKT lo w
 hlo:lo<=B
theorem qWz.a{lo B T o c:Nat}{l:List Tok}{d:Int}{w:World}(h:qWz lo B T o c l d w):w.cell? ⟨B,0,none⟩=some (.slice (some ⟨T,o * 5,none⟩) l.length c)/\w.cell? ⟨B,1,none⟩=some (.int .i64 d)/\True:=⟨h.c0,h.c1,trivial⟩
def vP(B:Nat)(l:List Tok)(d:Int)(w:World):Prop:=∃ lo T o c,qWz lo B T o c l d w
theorem qWz.lt{lo B T o c:Nat}{l:List Tok}{d:Int}{w:World}(h:qWz lo B T o c l d w):B < w.1.size:=qJ h.c0
theorem vP.lt{B:Nat}{l:List Tok}{d:Int}{w:World}(h:vP B l d w):B < w.1.size:=by
 obtain⟨lo,T,o,c,h⟩:=h;exact h.lt
theorem qWz.grown{lo B T o c:Nat}{l:List Tok}{d:Int}{w w':World}{r:Option Nat}(h:qWz lo B T o c l d w)(hg:w.grownBy w' r)(hr:∀ k,r=some k->B < k):qWz lo B T o c l d w':=by
 have hlt:=h.lt;have hT:=h.hT;have hlo:=h.hlo;have hne:∀ k,k<=B->some k≠r:=fun k hk e=>by have:=hr k e.symm;omega
 have hb:=hg.block B hlt (hne B (Nat.le_refl _));refine⟨(cB hb).trans h.c0,(cB hb).trans h.c1,(World.frozen?_of_block hb).trans h.f0,(World.frozen?_of_block hb).trans h.f1,
  fun k hk=>(h.row k hk).grown hg (hne T (by omega)),h.ends,hT,h.hc,h.hm,h.hl,h.ht,h.hd,h.tab.under ?_,hlo⟩
 exact(Below.refl _ _).grown hg (by omega) (fun k e=>by have:=hr k e;omega)
theorem vP.grown{B:Nat}{l:List Tok}{d:Int}{w w':World}{r:Option Nat}(h:vP B l d w)(hg:w.grownBy w' r)(hr:∀ k,r=some k->B < k):vP B l d w':=by
 obtain⟨lo,T,o,c,h⟩:=h;exact⟨lo,T,o,c,h.grown hg hr⟩
theorem zV{w w':World}(h:Below w.1.size w w')(r:Option Nat):w.grownBy w' r:=⟨h.os,h.tape,h.output,h.size,fun k hk _=>h.block k hk⟩
theorem qQb{w w':World}(h:w.grownBy w' none):Below w.1.size w w':=(Below.refl _ _).grown h (Nat.le_refl _) (fun _ e=>by cases e)
theorem vP.below{B:Nat}{l:List Tok}{d:Int}{w w':World}(h:vP B l d w)(hb:Below w.1.size w w'):vP B l d w':=h.grown (zV hb none) (fun _ e=>by cases e)
structure wH(b:Nat)(t:Tok)(w:World):Prop where
 c0:w.cell? ⟨b,0,none⟩=some (.int .i64 t.kind)
 c1:w.cell? ⟨b,1,none⟩=some (.string ⟨t.text.toArray⟩)
 c2:w.cell? ⟨b,2,none⟩=some (.int .u64 t.num)
 c3:w.cell? ⟨b,3,none⟩=some (.int .i64 t.line)
 c4:w.cell? ⟨b,4,none⟩=some (.int .i64 t.col)
 f:∀ k,k < 5->w.frozen? ⟨b,k,none⟩=false
theorem wH.a{b:Nat}{t:Tok}{w:World}(h:wH b t w):w.cell? ⟨b,0,none⟩=some (.int .i64 t.kind)/\w.cell? ⟨b,1,none⟩=some (.string ⟨t.text.toArray⟩)/\w.cell? ⟨b,2,none⟩=some (.int .u64 t.num)/\w.cell? ⟨b,3,none⟩=some (.int .i64 t.line)/\w.cell? ⟨b,4,none⟩=some (.int .i64 t.col)/\True:=⟨h.c0,h.c1,h.c2,h.c3,h.c4,trivial⟩
theorem wH.b{b:Nat}{t:Tok}{w:World}(h:wH b t w):w.frozen? ⟨b,0,none⟩=false/\w.frozen? ⟨b,1,none⟩=false/\w.frozen? ⟨b,2,none⟩=false/\w.frozen? ⟨b,3,none⟩=false/\w.frozen? ⟨b,4,none⟩=false/\True:=⟨h.f 0 (by decide),h.f 1 (by decide),h.f 2 (by decide),h.f 3 (by decide),h.f 4 (by decide),trivial⟩
theorem wH.lt{b:Nat}{t:Tok}{w:World}(h:wH b t w):b < w.1.size:=qJ h.c0
theorem wH.grown{b:Nat}{t:Tok}{w w':World}{r:Option Nat}(h:wH b t w)(hg:w.grownBy w' r)(hne:some b≠r):wH b t w' :=
 ⟨hg.cell h.c0 hne,hg.cell h.c1 hne,hg.cell h.c2 hne,hg.cell h.c3 hne,hg.cell h.c4 hne,fun k hk=>(World.frozen?_of_block (hg.block b h.lt hne)).trans (h.f k hk)⟩
theorem wH.below{b:Nat}{t:Tok}{w w':World}(h:wH b t w)(hb:Below w.1.size w w'):wH b t w':=h.grown (zV hb none) (by simp)
theorem wH.new(t:Tok)(w:World):wH w.1.size t (w.alloc (.cells #[.int .i64 t.kind, .string ⟨t.text.toArray⟩, .int .u64 t.num, .int .i64 t.line, .int .i64 t.col] 49)):=by
 constructor
 case f=>intro k hk;simp[go_sem]
 all_goals simp[go_sem]
structure zI(b:Nat)(k x:List UInt8)(n ln c:Int)(v:Value)(w:World):Prop where
 c0:w.cell? ⟨b,0,none⟩=some (.string ⟨k.toArray⟩)
 c1:w.cell? ⟨b,1,none⟩=some (.string ⟨x.toArray⟩)
 c2:w.cell? ⟨b,2,none⟩=some (.int .u64 n)
 c3:w.cell? ⟨b,3,none⟩=some (.int .i64 ln)
 c4:w.cell? ⟨b,4,none⟩=some (.int .i64 c)
 c5:w.cell? ⟨b,5,none⟩=some v
 f:∀ k,k < 6->w.frozen? ⟨b,k,none⟩=false
theorem zI.a{b:Nat}{k x:List UInt8}{n ln c:Int}{v:Value}{w:World}(h:zI b k x n ln c v w):w.cell? ⟨b,0,none⟩=some (.string ⟨k.toArray⟩)/\w.cell? ⟨b,1,none⟩=some (.string ⟨x.toArray⟩)/\w.cell? ⟨b,2,none⟩=some (.int .u64 n)/\w.cell? ⟨b,3,none⟩=some (.int .i64 ln)/\w.cell? ⟨b,4,none⟩=some (.int .i64 c)/\w.cell? ⟨b,5,none⟩=some v/\True:=⟨h.c0,h.c1,h.c2,h.c3,h.c4,h.c5,trivial⟩
theorem zI.b{b:Nat}{k x:List UInt8}{n ln c:Int}{v:Value}{w:World}(h:zI b k x n ln c v w):w.frozen? ⟨b,0,none⟩=false/\w.frozen? ⟨b,1,none⟩=false/\w.frozen? ⟨b,2,none⟩=false/\w.frozen? ⟨b,3,none⟩=false/\w.frozen? ⟨b,4,none⟩=false/\w.frozen? ⟨b,5,none⟩=false/\True:=⟨h.f 0 (by decide),h.f 1 (by decide),h.f 2 (by decide),h.f 3 (by decide),h.f 4 (by decide),h.f 5 (by decide),trivial⟩
theorem zI.lt{b:Nat}{k x:List UInt8}{n ln c:Int}{v:Value}{w:World}(h:zI b k x n ln c v w):b < w.1.size:=qJ h.c0
theorem zI.grown{b:Nat}{k x:List UInt8}{n ln c:Int}{v:Value}{w w':World}{r:Option Nat}(h:zI b k x n ln c v w)(hg:w.grownBy w' r)(hne:some b≠r):zI b k x n ln c v w' :=
 ⟨hg.cell h.c0 hne,hg.cell h.c1 hne,hg.cell h.c2 hne,hg.cell h.c3 hne,hg.cell h.c4 hne,hg.cell h.c5 hne,fun k hk=>(World.frozen?_of_block (hg.block b h.lt hne)).trans (h.f k hk)⟩
theorem zI.below{b:Nat}{k x:List UInt8}{n ln c:Int}{v:Value}{w w':World}(h:zI b k x n ln c v w)(hb:Below w.1.size w w'):zI b k x n ln c v w':=h.grown (zV hb none) (by simp)
theorem zI.new(k x:List UInt8)(n ln c:Int)(v:Value)(w:World) :
 zI w.1.size k x n ln c v (w.alloc (.cells #[.string ⟨k.toArray⟩, .string ⟨x.toArray⟩, .int .u64 n, .int .i64 ln, .int .i64 c,v] 57)):=by
 constructor
 case f=>intro k hk;simp[go_sem]
 all_goals simp[go_sem]
theorem zI.set5{b:Nat}{k x:List UInt8}{n ln c:Int}{v:Value}{w:World}(h:zI b k x n ln c v w)(u:Value):zI b k x n ln c u (w.setCell ⟨b,5,none⟩ u):=by
 have⟨h0,h1,h2,h3,h4,h5,_⟩:=h.a;have hf:=h.f;constructor
 case f=>intro k hk;have:=hf k hk;simp[go_sem, *]
 all_goals simp[go_sem, *]
def tok0:Tok:=⟨0,[],0,0,0⟩
theorem jM(w:World)(B o:Nat)(v:Value):w.grownBy (w.setCell ⟨B,o,none⟩ v) (some B):=vC (jS _ _) v
theorem qWz.step{lo B T o c:Nat}{t:Tok}{r:List Tok}{d:Int}{w:World}(h:qWz lo B T o c (t :: r) d w)(ht:t.text≠[]) :
 qWz lo B T (o+1) (c - 1) r d (w.setCell ⟨B,0,none⟩ (.slice (some ⟨T,o * 5+5,none⟩) r.length (c - 1))):=by
 have h0:=h.c0;have h1:=h.c1;have g0:=h.f0;have g1:=h.f1;have hg:=jM w B 0 (.slice (some ⟨T,o * 5+5,none⟩) r.length (c - 1));have hT:=h.hT;have hlo:=h.hlo;have hcc:=h.hc;have hm:=h.hm;have hl:=h.hl;simp only[lO]at hcc hl;refine⟨by rw[Nat.succ_mul];simp[go_sem, *],by simp[go_sem, *],by simp[go_sem, *],by simp[go_sem, *],fun k hk=>?_,h.ends.tail ht,hT,by omega,by omega,by omega,fun u hu=>h.ht u (by simp[hu]),h.hd,h.tab.under ?_,hlo⟩
 ·have:=h.row (k+1) (by simpa using hk);have e:o+(k+1)=o+1+k:=by omega
  rw[e]at this;exact(this.grown hg (by simp;omega))
 ·exact(Below.refl _ _).grown hg (by have:=h.lt;omega) (fun k e=>by cases e;exact hlo)
theorem xR{w w2:World}{r:Option Nat}(h:w.grownBy w2 r){k:Nat}(hk:w.1.size<=k)(o:Nat)(v:Value):w.grownBy (w2.setCell ⟨k,o,none⟩ v) r:=by
 have hb:=(Below.refl 0 w2).setCell (p:=⟨k,o,none⟩) (Nat.zero_le _) v;refine⟨hb.os.trans h.os,hb.tape.trans h.tape,hb.output.trans h.output,Nat.le_trans h.size hb.size,fun j hj hr=>?_⟩;rw[hS w2 _ v j (fun e=>by simp at e;omega)];exact h.block j hj hr
theorem vP.set{B:Nat}{l:List Tok}{d:Int}{w:World}(h:vP B l d w){k:Nat}(hk:B < k)(o:Nat)(v:Value):vP B l d (w.setCell ⟨k,o,none⟩ v) :=
 h.grown (jM w k o v) (fun j e=>by cases e;exact hk)
def qXo(ln c code:Int):Value:=.iface 110 (.agg #[.int .i64 ln, .int .i64 c, .int .i64 code])
theorem kY(B:Nat)(t:Tok)(r:List Tok)(d:Int)(w:World)(h:vP B (t :: r) d w) :
 Calls prog 90 #[.pointer (some ⟨B,0,none⟩)] w fun e w'=>e=.returned (vT t)/\Below w.1.size w w':=by
 obtain⟨lo,T,o,c,h⟩:=h;have c0:=h.c0;have ht:=h.row 0 (by simp);have a0:=ht.fk;have a1:=ht.ft;have a2:=ht.fm;have a3:=ht.fl;have a4:=ht.fc;have hcc:=h.hc;have hB:=h.lt;have hTs:T < w.1.size:=Nat.lt_trans h.hT hB;simp only[Nat.add_zero,List.getElem_cons_zero,lO]at a0 a1 a2 a3 a4 c0 hcc;clear h ht;unfold vT xA;go_enter func90,ntmps90
 go_wp2
 exact bodyPost_ret (by simp[results,results90,go_sem]) rfl ⟨rfl,(Below.refl _ _).alloc (Nat.le_refl _) _⟩
def Pan(B:Nat)(ln c code:Int)(w:World)(e:Ending)(w':World):Prop :=
 e=.panicked [{ v:=qXo ln c code,recovered:=false }]/\w.grownBy w' (some B)
theorem qPy(B:Nat)(t:Tok)(r:List Tok)(d code:Int)(w:World)(h:vP B (t :: r) d w) :
 Calls prog 126 #[.pointer (some ⟨B,0,none⟩), .int .i64 code] w (Pan B t.line t.col code w):=by
 have H:=hI (kY B t r d w h);clear h;unfold Pan;go_enter func126,ntmps126
 go_wp2_with fail
 refine(H.o).mono ?_;rintro e w1 ⟨rfl,hb⟩;unfold vT xA;go_wp2
 exact⟨rfl,rfl,zV (hb.alloc hb.size _) _⟩
theorem jI(t:Tok)(k x:ByteArray)(w:World) :
 Calls prog 89 #[vT t, .string k, .string x] w fun e w'=>e=.returned (.agg #[.string k, .string x, .int .u64 0, .int .i64 t.line, .int .i64 t.col, .slice none 0 0])/\Below w.1.size w w':=by
 unfold vT xA;go_enter func89,ntmps89
 go_wp2
 exact bodyPost_ret (by simp[results,results89,go_sem]) rfl ⟨rfl,((Below.refl _ _).alloc (Nat.le_refl _) _).alloc (by simp) _⟩
theorem yW(a b c d e:Value)(w:World):(Instr.field 49 (.agg #[a,b,c,d,e]) 0).run prog w=.ok a w:=by kernel_rfl
theorem vS(a b c d e:Value)(w:World):(Instr.field 49 (.agg #[a,b,c,d,e]) 1).run prog w=.ok b w:=by kernel_rfl
theorem wN(B:Nat)(t:Tok)(r:List Tok)(d:Int)(x:List UInt8)(w:World)(h:vP B (t :: r) d w) :
 Calls prog 102 #[.pointer (some ⟨B,0,none⟩), .string ⟨x.toArray⟩] w fun e w'=>e=.returned (.bool (t.text == x))/\Below w.1.size w w':=by
 have H:=hI (kY B t r d w h);clear h;have hf:=vS;go_enter func102,ntmps102
 go_wp2_with fail
 refine(H.o).mono ?_;rintro e w1 ⟨rfl,hb⟩;unfold vT xA;go_wp2
 go_ret;exact⟨rfl,hb⟩
theorem qQ8(B:Nat)(t:Tok)(r:List Tok)(d:Int)(w:World)(h:vP B (t :: r) d w) :
 Calls prog 123 #[.pointer (some ⟨B,0,none⟩), .bool false] w (Pan B t.line t.col 30 w):=by
 have ha:=(Below.refl w.1.size w).alloc (Nat.le_refl _) (.cells #[.int .i64 0, .string ⟨#[]⟩, .int .u64 0, .int .i64 0, .int .i64 0] 49);have H:=hI (qPy B t r d 30 _ (h.below ha));clear h;unfold Pan;go_enter func123,ntmps123
 go_wp2_with fail
 refine(H.o).mono ?_;rintro e w1 ⟨rfl,hb⟩;exact⟨rfl,rfl,qR (zV ha _) hb⟩
theorem vB(B:Nat)(t:Tok)(r:List Tok)(d:Int)(w:World)(h:vP B (t :: r) d w)(ht:t.text≠[]) :
 Calls prog 123 #[.pointer (some ⟨B,0,none⟩), .bool true] w fun e w'=>e=.returned (vT t)/\vP B r d w'/\w.grownBy w' (some B):=by
 have ha:=(Below.refl w.1.size w).alloc (Nat.le_refl _) (.cells #[.int .i64 0, .string ⟨#[]⟩, .int .u64 0, .int .i64 0, .int .i64 0] 49);have H:=hI (kY B t r d _ (h.below ha));have R0:=wH.new tok0 w;go_enter func123,ntmps123
 go_wp2_with fail
 refine(H.o).mono ?_;rintro e w1 ⟨rfl,hb⟩;have h1:=h.below (ha.trans (hb.mono ha.size));have hne:w.1.size < w1.1.size:=by have:=hb.size;simp at this;omega
 have HA:=hI (ha.trans (hb.mono ha.size));have hBw:=h.lt;have R1:=R0.below hb;clear hb ha h H R0;obtain⟨lo,T,o,c,h1⟩:=h1;have c0:=h1.c0;have f0:=h1.f0;have hcc:=h1.hc;have hB:=h1.lt;have hm:=h1.hm;simp only[lO]at c0 hcc;have HC:=hI (qY1 ⟨t.text.toArray⟩);have hsz:(⟨t.text.toArray⟩:ByteArray).size<=65536:=h1.ht t (by simp);have hc1:¬c=1:=by
  obtain⟨t',r',rfl⟩:=(h1.ends.tail ht).ne;simp at hcc;omega
 have HS:=hI (h1.step ht);have HN:=hI (wH.new t (w1.setCell ⟨B,0,none⟩ (.slice (some ⟨T,o * 5+5,none⟩) r.length (c - 1))));have HR:=hI R1;clear h1 R1;unfold vT xA;go_wp2_with fail
 refine(HC.o _ hsz).mono ?_;rintro e w2 ⟨rfl,hb2⟩;have hg1:=zY (jM w1 B 0 (.slice (some ⟨T,o * 5+5,none⟩) r.length (c - 1))) (.cells #[.int .i64 t.kind, .string ⟨t.text.toArray⟩, .int .u64 t.num, .int .i64 t.line, .int .i64 t.col] 49);have hN2:=HN.o.below hb2;simp only[World.size_setCell]at hN2;have hR2:=(HR.o.grown hg1 (by simp;omega)).below hb2;have hS2:=vP.below (vP.grown ⟨_,_,_,_,HS.o⟩ (World.grownBy_alloc _ _ none) (fun _ e=>by cases e)) hb2;have HG:=hI (qR (zV HA.o (some B)) (qR hg1 (zV hb2 (some B))));have hsz2:w1.1.size < w2.1.size:=hN2.lt;have HS2:=hI hS2;clear hS2 hb2 hg1 HS HN HR HC;have⟨q0,q1,q2,q3,q4,_⟩:=hN2.a;have qf:=hN2.f 1 nL;have⟨r0,r1,r2,r3,r4,_⟩:=hR2.a;have⟨g0,g1,g2,g3,g4,_⟩:=hR2.b;clear hN2 hR2;go_wp2
 refine bodyPost_ret (v:=vT t) (by simp[results,results123,go_sem,vT,xA,r0,r1,r2,r3,r4]) rfl ⟨rfl,?_,?_⟩
 ·exact(((((HS2.o.set (by omega) _ _).set hBw _ _).set hBw _ _).set hBw _ _).set hBw _ _).set hBw _ _
 ·have h0:=Nat.le_refl w.1.size;exact xR (xR (xR (xR (xR (xR HG.o (by omega) _ _) h0 _ _) h0 _ _) h0 _ _) h0 _ _) h0 _ _
inductive qQ where
 | mk (kind text:List UInt8) (num line col:Int) (kids:List qQ)
def qQ.kind:qQ->List UInt8 | .mk k _ _ _ _ _=>k
def qQ.text:qQ->List UInt8 | .mk _ x _ _ _ _=>x
def qQ.num:qQ->Int | .mk _ _ n _ _ _=>n
def qQ.line:qQ->Int | .mk _ _ _ l _ _=>l
def qQ.col:qQ->Int | .mk _ _ _ _ c _=>c
def qQ.kids:qQ->List qQ | .mk _ _ _ _ _ ks=>ks
theorem tQ(k x:List UInt8)(n l c:Int)(ks:List qQ):(qQ.mk k x n l c ks).kind=k/\(qQ.mk k x n l c ks).text=x/\(qQ.mk k x n l c ks).num=n/\(qQ.mk k x n l c ks).line=l/\(qQ.mk k x n l c ks).col=c/\(qQ.mk k x n l c ks).kids=ks:=⟨rfl,rfl,rfl,rfl,rfl,rfl⟩
inductive PR(α:Type) where
 | ok (a:α) (l:List Tok)
 | bad (ln c code:Int)
 | out
def PR.bind{α β:Type}:PR α->(α->List Tok->PR β)->PR β
 | .ok a l,f=>f a l
 | .bad ln c code,_=>.bad ln c code
 | .out,_=>.out
def hdT(l:List Tok):Tok:=l.headD tok0
def qWQ{α:Type}(code:Int)(l:List Tok):PR α:=.bad (hdT l).line (hdT l).col code
def jV(may:Bool):List Tok->PR Tok
 | []=>.bad 0 0 30
 | t :: r=>if may then .ok t r else .bad t.line t.col 30
def jL:List (List UInt8)->List Tok->PR Unit
 | [],l=>.ok () l
 | x :: xs,l=>(jV ((hdT l).text == x) l).bind fun _ l=>jL xs l
def kR(t:Tok):Bool:=t.kind == 0 && !qWm t.text
def yG(x:List UInt8):Bool:=kJ x qQw
def xX(d:Int)(p:Int->List Tok->PR qQ)(l:List Tok):PR qQ:=if d=60 then qWQ 31 l else p (d+1) l
def vI(stop:Tok->Bool)(p:List Tok->PR qQ):Nat->List qQ->List Tok->PR (List qQ)
 | 0,_,_=>.out
 | n+1,acc,l=>if stop (hdT l)then .ok acc l else(p l).bind fun t l=>vI stop p n (acc++[t]) l
def qY:List UInt8:=[112,114,111,103,114,97,109]
def qG:List UInt8:=[103,108,111,98,97,108]
def qC:List UInt8:=[102,117,110,99]
def qO:List UInt8:=[112,97,114,97,109]
def zB:List UInt8:=[116,121,112,101]
def zD:List UInt8:=[110,117,109]
def zX:List UInt8:=[98,108,111,99,107]
def qE:List UInt8:=[108,111,99,97,108]
def kIf:List UInt8:=[105,102]
def zS:List UInt8:=[101,108,115,101]
def qA:List UInt8:=[119,104,105,108,101]
def qV:List UInt8:=[114,101,116,117,114,110]
def qF:List UInt8:=[97,115,115,101,114,116]
def qD:List UInt8:=[97,115,115,117,109,101]
def qP:List UInt8:=[97,115,115,105,103,110]
def qW:List UInt8:=[110,111,110,100,101,116]
def qN:List UInt8:=[114,101,115,117,108,116]
def zW:List UInt8:=[99,97,108,108]
def zM:List UInt8:=[110,97,109,101]
def qL:List UInt8:=[105,110,100,101,120]
def qM:List UInt8:=[98,105,110,97,114,121]
def qT:List UInt8:=[117,110,97,114,121]
def zK:List UInt8:=[99,97,115,116]
def zL:List UInt8:=[116,114,117,101]
def qH:List UInt8:=[102,97,108,115,101]
def zA:List UInt8:=[118,111,105,100]
def jG:List (List (List UInt8)):=[[[124,124]],[[38,38]],[[124]],[[94]],[[38]],[[61,61],[33,61]],[[60],[60,61],[62],[62,61]],[[60,60],[62,62]],[[43],[45]],[[42],[47],[37]]]
def xE(x:List UInt8):Int->List (List (List UInt8))->Int
 | _,[]=>-1
 | i,g :: gs=>if g.contains x then i else xE x (i+1) gs
def xL(x:List UInt8):Int:=xE x 0 jG
def qXD(x:List UInt8):Bool:=x == [33] || x == [126] || x == [45]
def zG(kind:List UInt8)(void:Bool)(l:List Tok):PR qQ :=
 (jV (void || yG (hdT l).text) l).bind fun t l=>(jV (kR (hdT l)) l).bind fun u l =>
  .ok (.mk kind u.text 0 t.line t.col [.mk zB t.text 0 t.line t.col []]) l
def wQ(l:List Tok):PR qQ:=(jV ((hdT l).kind == 1) l).bind fun t l=>.ok (.mk zD [] t.num t.line t.col []) l
def xT(n:Nat)(p:List Tok->PR qQ)(l:List Tok):PR (List qQ) :=
 (jL [[40]] l).bind fun _ l =>
  if (hdT l).text == [41]then(jL [[41]] l).bind fun _ l=>.ok [] l
  else(p l).bind fun t l=>(vI (fun u=>!(u.text == [44])) (fun l=>(jL [[44]] l).bind fun _ l=>p l) n [t] l).bind fun ts l =>
   (jL [[41]] l).bind fun _ l=>.ok ts l
inductive NT where
 | block
 | binary (k:Int)
 | operand
section
variable (rec:NT->Int->List Tok->PR qQ) (n:Nat)
def xF(d:Int)(l:List Tok):PR qQ :=
 (jV (kR (hdT l)) l).bind fun t l =>
  if (hdT l).text == [91]then(jL [[91]] l).bind fun _ l=>(xX d (rec (.binary 0)) l).bind fun e l=>(jL [[93]] l).bind fun _ l=>.ok (.mk qL t.text 0 t.line t.col [e]) l
  else .ok (.mk zM t.text 0 t.line t.col []) l
def yJ(d:Int)(l:List Tok):PR qQ :=
 (jV ((hdT l).text == [40]) l).bind fun t l =>
  if yG (hdT l).text then(jV true l).bind fun u l=>(jL [[41]] l).bind fun _ l=>(xX d (rec .operand) l).bind fun e l=>.ok (.mk zK u.text 0 t.line t.col [e]) l
  else(xX d (rec (.binary 0)) l).bind fun e l=>(jL [[41]] l).bind fun _ l=>.ok e l
def jU(d:Int)(l:List Tok):PR qQ :=
 if (hdT l).kind == 1 then wQ l
 else if (hdT l).text == zL || (hdT l).text == qH then(jV true l).bind fun u l'=>.ok (.mk u.text [] 0 (hdT l).line (hdT l).col []) l'
 else if qXD (hdT l).text then(jV true l).bind fun u l'=>(xX d (rec .operand) l').bind fun e l'=>.ok (.mk qT u.text 0 (hdT l).line (hdT l).col [e]) l'
 else if (hdT l).text == [40]then yJ rec d l
 else xF rec d l
def kX(k d:Int):Nat->qQ->List Tok->PR qQ
 | 0,_,_=>.out
 | m+1,left,l=>if xL (hdT l).text < k then .ok left l
  else(jV true l).bind fun t l'=>(rec (.binary (xL (hdT l).text+1)) d l').bind fun r l'=>kX k d m (.mk qM t.text 0 t.line t.col [left,r]) l'
def qQy(k d:Int)(l:List Tok):PR qQ:=(rec .operand d l).bind fun e l=>kX rec k d n e l
def qQh(d:Int)(l:List Tok):PR qQ:=rec (.binary 0) d l
def qPf(d:Int)(l:List Tok):PR qQ:=xX d (rec (.binary 0)) l
def qQR:List Tok->Bool
 | t :: u :: _=>kR t && u.text == [40]
 | _=>false
def qQz(d:Int)(l:List Tok):PR qQ :=
 (jV (kR (hdT l)) l).bind fun t l=>(xT n (qPf rec d) l).bind fun ts l=>.ok (.mk zW t.text 0 t.line t.col ts) l
def jJ(d:Int)(l:List Tok):PR qQ :=
 if qQR l then(qQz rec n d l).bind fun t l=>(jL [[59]] l).bind fun _ l=>.ok t l
 else(xF rec d l).bind fun x l'=>(jL [[61]] l').bind fun _ l' =>
  if (hdT l').text == qW then(jL [qW,[40],[41]] l').bind fun _ l'=>(jL [[59]] l').bind fun _ l'=>.ok (.mk qW [] 0 (hdT l).line (hdT l).col [x]) l'
  else if qQR l' then(qQz rec n d l').bind fun y l'=>(jL [[59]] l').bind fun _ l'=>.ok (.mk qN [] 0 (hdT l).line (hdT l).col [x,y]) l'
  else(qQh rec d l').bind fun y l'=>(jL [[59]] l').bind fun _ l'=>.ok (.mk qP [] 0 (hdT l).line (hdT l).col [x,y]) l'
def kL(d:Int)(l:List Tok):PR qQ :=
 (jV true l).bind fun t l=>(jL [[40]] l).bind fun _ l=>(qQh rec d l).bind fun e l=>(jL [[41],[59]] l).bind fun _ l=>.ok (.mk t.text [] 0 t.line t.col [e]) l
def yC(d:Int)(l:List Tok):PR qQ :=
 (jL [qV] l).bind fun _ l' =>
  if (hdT l').text == [59]then(jL [[59]] l').bind fun _ l'=>.ok (.mk qV [] 0 (hdT l).line (hdT l).col []) l'
  else(qQh rec d l').bind fun e l'=>(jL [[59]] l').bind fun _ l'=>.ok (.mk qV [] 0 (hdT l).line (hdT l).col [e]) l'
def jK(word:List UInt8)(d:Int)(l:List Tok):PR qQ :=
 (jL [word,[40]] l).bind fun _ l'=>(qQh rec d l').bind fun e l'=>(jL [[41]] l').bind fun _ l'=>(xX d (rec .block) l').bind fun b l' =>
  .ok (.mk word [] 0 (hdT l).line (hdT l).col [e,b]) l'
def vF(d:Int)(l:List Tok):PR qQ :=
 (jK rec kIf d l).bind fun t l=>if (hdT l).text == zS then(jL [zS] l).bind fun _ l=>(xX d (rec .block) l).bind fun b l=>.ok (.mk t.kind t.text t.num t.line t.col (t.kids++[b])) l else .ok t l
def qQM(l:List Tok):PR qQ:=(zG qE false l).bind fun t l=>(jL [[59]] l).bind fun _ l=>.ok t l
def qQA(d:Int)(l:List Tok):PR qQ :=
 if (hdT l).text == kIf then vF rec d l
 else if (hdT l).text == qA then jK rec qA d l
 else if (hdT l).text == qV then yC rec d l
 else if (hdT l).text == qF || (hdT l).text == qD then kL rec d l
 else if yG (hdT l).text then qQM l
 else jJ rec n d l
def qQK(d:Int)(l:List Tok):PR qQ :=
 (jL [[123]] l).bind fun _ l'=>(vI (fun u=>u.text == [125]) (qQA rec n d) n [] l').bind fun ts l'=>(jL [[125]] l').bind fun _ l'=>.ok (.mk zX [] 0 (hdT l).line (hdT l).col ts) l'
def stepP:NT->Int->List Tok->PR qQ
 | .block=>qQK rec n
 | .binary k=>qQy rec n k
 | .operand=>jU rec
end
def qQd:Nat->NT->Int->List Tok->PR qQ
 | 0,_,_,_=>.out
 | n+1,x,d,l=>stepP (qQd n) n x d l
def qZe(n:Nat)(l:List Tok):PR qQ :=
 (zG qG ((hdT l).text == zA) l).bind fun t l' =>
  if (hdT l).text == zA || (hdT l').text == [40]then(xT n (zG qO false) l').bind fun ps l'=>(xX 0 (qQd n .block) l').bind fun b l' =>
   .ok (.mk qC t.text t.num t.line t.col (t.kids++ps++[b])) l'
  else if (hdT l').text == [91]then(jL [[91]] l').bind fun _ l'=>(wQ l').bind fun m l'=>(jL [[93]] l').bind fun _ l'=>(jL [[59]] l').bind fun _ l'=>.ok (.mk t.kind t.text t.num t.line t.col (t.kids++[m])) l'
  else(jL [[59]] l').bind fun _ l'=>.ok t l'
def xW(n:Nat)(l:List Tok):PR qQ :=
 (vI (fun u=>u.kind == 3) (qZe n) n [] l).bind fun ts l'=>.ok (.mk qY [] 0 (hdT l).line (hdT l).col ts) l'
/-! ### Where trees lie -/
def qS(t:qQ)(v:Value):List Value:=[.string ⟨t.kind.toArray⟩, .string ⟨t.text.toArray⟩, .int .u64 t.num, .int .i64 t.line, .int .i64 t.col,v]
def qZ(t:qQ)(v:Value):Value:=.agg #[.string ⟨t.kind.toArray⟩, .string ⟨t.text.toArray⟩, .int .u64 t.num, .int .i64 t.line, .int .i64 t.col,v]
def qZK:List qQ->List Value->List Value
 | t :: ts,v :: vs=>qS t v++qZK ts vs
 | _,_=>[]
mutual
def xZ(w:World)(ok:Nat->Prop):qQ->Value->Prop
 | .mk _ _ _ _ _ kids,v=>∃ vs,(∀ g,v.ownBlock=some g->ok g)/\w.ownsRow 0 57 6 v kids.length (qZK kids vs)/\vV w ok kids vs
def vV(w:World)(ok:Nat->Prop):List qQ->List Value->Prop
 | [],[]=>True
 | t :: ts,v :: vs=>xZ w ok t v/\vV w ok ts vs
 | _,_=>False
end
mutual
theorem xZ.move{w w':World}{ok ok':Nat->Prop}(hm:∀ g,g < w.1.size->ok g->ok' g/\w'.1[g]? = w.1[g]?):∀ (t:qQ) (v:Value),xZ w ok t v->xZ w' ok' t v
 | .mk _ _ _ _ _ kids,v,h=>by
  obtain⟨vs,h1,h2,h3⟩:=h;refine⟨vs,fun g hg=>(hm g (h2.lt g hg).2 (h1 g hg)).1,⟨h2.1,?_⟩,vV.move hm kids vs h3⟩;rcases h2.2 with h | ⟨g,cap,cur,rfl,hb,hgg,rest⟩
  ·exact .inl h
  ·exact .inr ⟨g,cap,cur,rfl,hb,((hm g (Array.getElem?_eq_some_iff.1 hgg).1 (h1 g rfl)).2).trans hgg,rest⟩
theorem vV.move{w w':World}{ok ok':Nat->Prop}(hm:∀ g,g < w.1.size->ok g->ok' g/\w'.1[g]? = w.1[g]?):∀ (ts:List qQ) (vs:List Value),vV w ok ts vs->vV w' ok' ts vs
 | [],[],_=>trivial
 | t :: ts,v :: vs,h=>⟨xZ.move hm t v h.1,vV.move hm ts vs h.2⟩
 | [],_ :: _,h=>h.elim
 | _ :: _,[],h=>h.elim
end
def zC(w:World)(lo:Nat)(ts:List qQ)(v:Value):Prop:=∃ vs,w.ownsRow lo 57 6 v ts.length (qZK ts vs)/\vV w (fun g=>lo<=g/\some g≠v.ownBlock) ts vs
theorem zC.nil(w:World)(lo:Nat):zC w lo [] (.slice none 0 0):=⟨[],World.ownsRow_nil _ _ _ _,trivial⟩
theorem qW2{w:World}{b b':Nat}{e:TypeId}{size:Nat}{v:Value}{n:Nat}{xs:List Value}(h:w.ownsRow b e size v n xs)(hb:∀ g,v.ownBlock=some g->b'<=g):w.ownsRow b' e size v n xs:=by
 obtain⟨h1,h2 | ⟨g,cap,cur,rfl,h4,h5⟩⟩:=h
 ·exact⟨h1, .inl h2⟩
 ·exact⟨h1, .inr ⟨g,cap,cur,rfl,hb g rfl,h5⟩⟩
theorem zC.mono{w:World}{lo lo':Nat}{ts:List qQ}{v:Value}(h:zC w lo ts v)(hl:lo'<=lo):zC w lo' ts v:=by
 obtain⟨vs,h1,h2⟩:=h;exact⟨vs,qKa h1 hl,vV.move (fun g _ hg=>⟨⟨Nat.le_trans hl hg.1,hg.2⟩,rfl⟩) ts vs h2⟩
theorem zC.grown{w w':World}{lo:Nat}{ts:List qQ}{v:Value}{r:Option Nat}(h:zC w lo ts v)(hg:w.grownBy w' r)(hr:∀ k,r=some k->k < lo\/w.1.size<=k):zC w' lo ts v:=by
 obtain⟨vs,h1,h2⟩:=h;have hne:∀ g,g < w.1.size->lo<=g->some g≠r:=fun g hg1 hg2 e=>by rcases hr g e.symm with h | h <;> omega
 refine⟨vs,h1.kept hg ?_,vV.move (fun g hlt hok=>⟨hok,hg.block g hlt (hne g hlt hok.1)⟩) ts vs h2⟩;cases hv:v.ownBlock with
 | none=>exact .inl rfl
 | some g=>exact .inr (hne g (h1.lt g hv).2 (h1.lt g hv).1)
theorem zC.lies{w:World}{lo:Nat}{t:qQ}{v:Value}(h:zC w lo t.kids v):xZ w (fun g=>lo<=g) t v:=by
 obtain⟨vs,h1,h2⟩:=h;cases t with
 | mk k x n l c ks=>exact⟨vs,fun g hg=>(h1.lt g hg).1,qKa h1 (Nat.zero_le _),vV.move (fun g _ hg=>⟨hg.1,rfl⟩) _ vs h2⟩
theorem vV.length{w:World}{ok:Nat->Prop}:∀ (ts:List qQ) (vs:List Value),vV w ok ts vs->ts.length=vs.length
 | [],[],_=>rfl
 | _ :: ts,_ :: vs,h=>by simp[vV.length ts vs h.2]
 | [],_ :: _,h=>h.elim
 | _ :: _,[],h=>h.elim
theorem qJS:∀ (ts us:List qQ) (vs xs:List Value),ts.length=vs.length->qZK (ts++us) (vs++xs)=qZK ts vs++qZK us xs
 | [],us,[],xs,_=>rfl
 | t :: ts,us,v :: vs,xs,h=>by
  simp only[lC,qZK,qJS ts us vs xs (by simpa using h),List.append_assoc]
 | [],_,_ :: _,_,h=>by simp at h
 | _ :: _,_,[],_,h=>by simp at h
theorem vV.append{w:World}{ok:Nat->Prop}:∀ (ts us:List qQ) (vs xs:List Value),vV w ok ts vs->vV w ok us xs->vV w ok (ts++us) (vs++xs)
 | [],_,[],_,_,h=>h
 | _ :: ts,us,_ :: vs,xs,h,h'=>⟨h.1,vV.append ts us vs xs h.2 h'⟩
 | [],_,_ :: _,_,h,_=>h.elim
 | _ :: _,_,[],_,h,_=>h.elim
theorem type_hit{l:List UInt8}{k:Nat}(h:k < 9)(hp:qQw.getD k []=l)(hr:kJ l (qQw.drop k)=yG l):true=yG l:=by
 have hl:k < qQw.length:=h;rw[List.drop_eq_getElem_cons hl,kJ]at hr;rw[List.getD_eq_getElem?_getD,List.getElem?_eq_getElem hl,Option.getD_some]at *;rw[if_pos hp]at hr;exact hr
theorem type_miss{l:List UInt8}{k:Nat}(h:k < 9)(hp:¬qQw.getD k []=l)(hr:kJ l (qQw.drop k)=yG l):kJ l (qQw.drop (k+1))=yG l:=by
 have hl:k < qQw.length:=h;rw[List.drop_eq_getElem_cons hl,kJ]at hr;rw[List.getD_eq_getElem?_getD,List.getElem?_eq_getElem hl,Option.getD_some]at *;rw[if_neg hp]at hr;exact hr
theorem type_end{l:List UInt8}{k:Nat}(h:k<=9)(h':¬k < 9)(hr:kJ l (qQw.drop k)=yG l):false=yG l:=by
 obtain rfl:k=9:=by omega
 exact hr
theorem qXC(s:ByteArray)(w:World)(ht:qWD w) :
 Calls prog 124 #[.string s] w fun e w'=>e=.returned (.bool (yG s.data.toList))/\w=w':=by
 obtain⟨b,off,cap,ht⟩:=ht;have g:=ht.tg;go_enter func124,ntmps124
 go_wp2
 go_loop [7] (fun i=>∃ k:Nat,k<=9/\i=.int .i64 k/\kJ s.data.toList (qQw.drop k)=yG s.data.toList) (fun i=>9 - (intOf i).toNat)
 case atStart=>exact⟨0,Nat.zero_le _,rfl,rfl⟩
 case round =>
  obtain⟨k,hk,rfl,hr⟩:=hrel;have Hr:=hI hr;clear hr;by_cases hlt:k < 9
  ·have hc:=ht.tn k hlt;have HT:=hI ht;have hq:=qU6 (qQw.getD k []) s;generalize hA:(⟨(qQw.getD k []).toArray⟩:ByteArray)=a at *;clear ht g hA;by_cases hp:qQw.getD k []=s.data.toList
   ·rw[decide_eq_true hp]at hq;have HP:=hI hp;clear hp;go_wp2
    go_ret;exact⟨qQ4 (type_hit hlt HP.o Hr.o),rfl⟩
   ·rw[decide_eq_false hp]at hq;have HP:=hI hp;clear hp;go_wp2
    go_round
    case rel=>exact⟨k+1,by omega,by go_num,type_miss hlt HP.o Hr.o⟩
    case measure=>simp[intOf];omega
  ·clear g ht;go_wp2
   go_ret;exact⟨qQ4 (type_end hk hlt Hr.o),rfl⟩
theorem qVR(x:List UInt8)(w:World) :
 Calls prog 164 #[.string ⟨x.toArray⟩] w fun e w'=>e=.returned (.bool (qXD x))/\w=w':=by
 unfold qXD;cases h1:(x == [33]) <;> cases h2:(x == [126]) <;> cases h3:(x == [45]) <;>
 ·go_enter func164,ntmps164
  go_wp2
  go_ret;exact⟨rfl,rfl⟩
theorem kT(B:Nat)(t:Tok)(r:List Tok)(d:Int)(w:World)(h:vP B (t :: r) d w) :
 Calls prog 125 #[.pointer (some ⟨B,0,none⟩)] w fun e w'=>e=.returned (.bool (kR t))/\Below w.1.size w w':=by
 have H:=hI (kY B t r d w h);go_enter func125,ntmps125
 go_wp2_with fail
 refine(H.o).mono ?_;rintro e w1 ⟨rfl,hb⟩;have h1:=h.below hb;obtain⟨lo,T,o,c,h1⟩:=h1;have hk:=h1.tab.keys;have HK:=hI (key_any ⟨t.text.toArray⟩ (w1.alloc (.cells #[.int .i64 t.kind, .string ⟨t.text.toArray⟩, .int .u64 t.num, .int .i64 t.line, .int .i64 t.col] 49)) (by
  obtain⟨b,off,cap,hk⟩:=hk;exact⟨b,off,cap,hk.below ((Below.refl _ _).alloc (Nat.le_refl _) _)⟩))
 clear h h1 hk H;unfold vT xA;cases hn:(t.kind == 0)
 ·go_wp2_with fail
  go_ret;exact⟨by simp[kR,hn],hb.alloc hb.size _⟩
 ·go_wp2_with fail
  refine(HK.o).mono ?_;rintro e w2 ⟨rfl,rfl⟩;go_wp2
  trace_state
  go_ret;exact⟨by simp[kR,hn],hb.alloc hb.size _⟩
def qWy(B:Nat)(d:Int)(w:World)(p:PR Unit)(e:Ending)(w':World):Prop :=
 match p with
 | .ok _ l=>e=.returned (.tuple #[])/\vP B l d w'/\w.grownBy w' (some B)
 | .bad ln c code=>Pan B ln c code w e w'
 | .out=>True
theorem pass_hit{xs:List (List UInt8)}{k:Nat}(hk:k < xs.length){t:Tok}{r:List Tok}(h:t.text=xs[k]):jL (xs.drop k) (t :: r)=jL (xs.drop (k+1)) r:=by
 rw[List.drop_eq_getElem_cons hk,jL];have:(hdT (t :: r)).text=t.text:=rfl;rw[this,h];simp[jV,PR.bind]
theorem pass_miss{xs:List (List UInt8)}{k:Nat}(hk:k < xs.length){t:Tok}{r:List Tok}(h:¬t.text=xs[k]):jL (xs.drop k) (t :: r)=.bad t.line t.col 30:=by
 rw[List.drop_eq_getElem_cons hk,jL];have:(hdT (t :: r)).text=t.text:=rfl;rw[this];simp[jV,PR.bind,h]
theorem pass_end{xs:List (List UInt8)}{k:Nat}(hk:k<=xs.length)(hk':¬k < xs.length)(l:List Tok):jL (xs.drop k) l=.ok () l:=by
 rw[List.drop_eq_nil_of_le (by omega),jL]
def PassRel(B:Nat)(xs:List (List UInt8))(l:List Tok)(d:Int)(w:World)(i:Value)(wr:World):Prop :=
 ∃ (k:Nat) (l1:List Tok),k<=xs.length/\i=.int .i64 k/\vP B l1 d wr/\w.grownBy wr (some B)/\jL (xs.drop k) l1=jL xs l
theorem vP.ends{B:Nat}{l:List Tok}{d:Int}{w:World}(h:vP B l d w):qZY l:=by
 obtain⟨lo,T,o,c,h⟩:=h;exact h.ends
theorem qPY(B g cap:Nat)(xs:List (List UInt8))(l:List Tok)(d:Int)(w:World)(h:vP B l d w)(hBg:B < g)(hx:∀ i,i < xs.length->w.cell? ⟨g,i,none⟩=some (.string ⟨(xs.getD i []).toArray⟩))
 (hne:∀ x∈xs,x≠[]) (hcap:xs.length<=cap) (hlen:xs.length<=10) :
 Calls prog 108 #[.pointer (some ⟨B,0,none⟩), .slice (some ⟨g,0,none⟩) xs.length cap] w (qWy B d w (jL xs l)):=by
 have HX:=hI hx;have HNE:=hI hne;have HP:=hI h;clear hx hne h;go_enter func108,ntmps108
 go_wp2_with fail
 go_loopw [8] (fun i wr=>PassRel B xs l d w i wr) (fun i _=>xs.length - (intOf i).toNat)
 case atStart=>exact⟨0,l,Nat.zero_le _,rfl,HP.o,jS _ _,rfl⟩
 case round =>
  obtain⟨k,l1,hk,rfl,hR,hg,hp⟩:=hrel;have HPP:=hI hp;clear hp;by_cases hlt:k < xs.length
  ·have hc0:=HX.o k hlt;have hc:wr.cell? ⟨g,k,none⟩=some (.string ⟨(xs.getD k []).toArray⟩):=hg.cell hc0 (by simp;omega);have hgt:xs.getD k []=xs[k]:=by simp[hlt]
   rw[hgt]at hc;have hxk:=HNE.o xs[k] (List.getElem_mem _);clear hc0 hgt;obtain⟨t,r,rfl⟩:=hR.ends.ne;have HA:=hI (wN B t r d xs[k] wr hR);have HR:=hI hR;by_cases he:t.text=xs[k]
   ·have hb:(t.text == xs[k])=true:=by simpa using he
    rw[hb]at HA;have hte:t.text≠[]:=by rw[he];exact hxk
    have HPP2:=hI (HPP.o ▸ pass_hit hlt he);clear hR he hb hxk;generalize xs[k]=x at *;go_wp2_with fail
    refine(HA.o).mono ?_;rintro e w1 ⟨rfl,hb1⟩;have HT:=hI (vB B t r d w1 (HR.o.below hb1) hte);go_wp2_with fail
    refine(HT.o).mono ?_;rintro e w2 ⟨rfl,hP2,hg2⟩;go_wp2
    go_roundw
    case rel=>exact⟨k+1,r,by omega,by go_num,hP2,qR (qR hg (zV hb1 _)) hg2,HPP2.o.symm⟩
    case measure=>simp[intOf];omega
   ·have hb:(t.text == xs[k])=false:=by simpa using he
    rw[hb]at HA;have HPP2:=hI (HPP.o ▸ pass_miss hlt he);clear hR he hb hxk;generalize xs[k]=x at *;go_wp2_with fail
    refine(HA.o).mono ?_;rintro e w1 ⟨rfl,hb1⟩;have HT:=hI (qQ8 B t r d w1 (HR.o.below hb1));go_wp2_with fail
    refine(HT.o).mono ?_;rintro e w2 ⟨rfl,hg2⟩;refine⟨rfl,?_⟩;rw[HPP2.o];exact⟨rfl,qR (qR hg (zV hb1 _)) hg2⟩
  ·have hpe:=HPP.o ▸ pass_end hk hlt l1;have HPE:=hI hpe;have HR:=hI hR;clear hR hpe;go_wp2
   go_end0;trace_state
   rw[HPE.o];exact⟨rfl,HR.o,hg⟩
def qXV(B:Nat)(d:Int)(w:World)(p:PR qQ)(e:Ending)(w':World):Prop :=
 match p with
 | .ok t l=>∃ v,e=.returned (qZ t v)/\zC w' w.1.size t.kids v/\vP B l d w'/\w.grownBy w' (some B)
 | .bad ln c code=>Pan B ln c code w e w'
 | .out=>True
def vM(f:Nat)(args:Value->Array Value)(d:Int)(p:List Tok->PR qQ):Prop :=
 ∀ (B:Nat) (l:List Tok) (w:World),vP B l d w->p l≠.out->Calls prog f (args (.pointer (some ⟨B,0,none⟩))) w (qXV B d w (p l))
def six(w:World)(k:Nat)(a b c d e f:Value):World:=(((((w.setCell ⟨k,0,none⟩ a).setCell ⟨k,1,none⟩ b).setCell ⟨k,2,none⟩ c).setCell ⟨k,3,none⟩ d).setCell ⟨k,4,none⟩ e).setCell ⟨k,5,none⟩ f
theorem qQU{w w2:World}{r:Option Nat}(h:w.grownBy w2 r){k:Nat}(hk:w.1.size<=k)(a b c d e f:Value):w.grownBy (six w2 k a b c d e f) r :=
 xR (xR (xR (xR (xR (xR h hk _ _) hk _ _) hk _ _) hk _ _) hk _ _) hk _ _
theorem vQ(w:World)(k:Nat)(a b c d e f:Value):w.grownBy (six w k a b c d e f) (some k) :=
 vC (vC (vC (vC (vC (vC (jS _ _) _) _) _) _) _) _
theorem vP.six{B:Nat}{l:List Tok}{d:Int}{w:World}(h:vP B l d w){k:Nat}(hk:B < k)(a b c d' e f:Value):vP B l d (six w k a b c d' e f) :=
 h.grown (vQ w k a b c d' e f) (fun j e=>by cases e;exact hk)
theorem zC.six{w:World}{lo:Nat}{ts:List qQ}{v:Value}(h:zC w lo ts v){k:Nat}(hk:k < lo)(a b c d e f:Value):zC (six w k a b c d e f) lo ts v :=
 h.grown (vQ w k a b c d e f) (fun j e=>by cases e;exact .inl hk)
theorem zC.below{w w':World}{lo:Nat}{ts:List qQ}{v:Value}(h:zC w lo ts v)(hb:Below w.1.size w w'):zC w' lo ts v:=h.grown (zV hb none) (fun _ e=>by cases e)
theorem zC.alloc{w:World}{lo:Nat}{ts:List qQ}{v:Value}(h:zC w lo ts v)(o:Obj):zC (w.alloc o) lo ts v:=h.grown (World.grownBy_alloc w o none) (fun _ e=>by cases e)
theorem zC.lt{w:World}{lo:Nat}{ts:List qQ}{v:Value}(h:zC w lo ts v):∀ g,v.ownBlock=some g->lo<=g/\g < w.1.size:=by
 obtain⟨vs,h1,_⟩:=h;exact h1.lt
theorem ppost_six{B k:Nat}{d:Int}{w w2:World}{t:qQ}{l:List Tok}{v:Value}(hk:w.1.size=k)(hB:B < k)(hP:vP B l d w2)(hg:w.grownBy w2 (some B))(hb:zC w2 (k+1) t.kids v)(a b c d' e f:Value) :
 qXV B d w (.ok t l) (.returned (qZ t v)) (six w2 k a b c d' e f) :=
 ⟨v,rfl,(hb.six (Nat.lt_succ_self k) _ _ _ _ _ _).mono (by omega),hP.six hB _ _ _ _ _ _,qQU hg (by omega) _ _ _ _ _ _⟩
theorem info57:(prog.info? 57).map (fun i=>(i.zero,i.size,i.bytes))=some (some (.agg #[.string ⟨#[]⟩, .string ⟨#[]⟩, .int .u64 0, .int .i64 0, .int .i64 0, .slice none 0 0]),6,80):=by kernel_rfl
theorem nodeC_one(t:qQ){v:Value}(h:v.oneCell'=true):∀ u∈qS t v,u.oneCell'=true:=by
 intro u hu;simp[qS]at hu;rcases hu with rfl | rfl | rfl | rfl | rfl | rfl <;> first | rfl | exact h
theorem qUk(w:World)(t:qQ)(v:Value)(T:TypeId) :
 ∀ (j:Nat) (u:Value),(qS t v)[j]? = some u->(w.alloc (.cells (qS t v).toArray T)).cell? ((⟨w.1.size,0,none⟩:Addr).add j)=some u:=by
 intro j u hj;unfold qS at *;match j,hj with
 | 0,h=>cases h;simp[Addr.add,go_sem]
 | 1,h=>cases h;simp[Addr.add,go_sem]
 | 2,h=>cases h;simp[Addr.add,go_sem]
 | 3,h=>cases h;simp[Addr.add,go_sem]
 | 4,h=>cases h;simp[Addr.add,go_sem]
 | 5,h=>cases h;simp[Addr.add,go_sem]
theorem qX7{P:Program}(w:World)(base:Nat)(t ty e:TypeId)(i:TypeInfo)(z:Value)(size bytes:Nat)(ht:P.underlying t=some (.slice e))(hi:P.info? e=some i)(hz:i.zero=some z)
 (hsize:i.size=size) (hby:i.bytes=bytes)
 (v:Value) (n:Nat) (xs:List Value) (hown:w.ownsRow base e size v n xs)
 (a:Addr) (m c:Nat) (news:List Value) (hl:news.length=m * size) (hnews:∀ j u,news[j]? = some u->w.cell? (a.add j)=some u) (h1:∀ u∈news,u.oneCell'=true)
 (h63:n+m<=maxLen) (hbytes:(n+m) * bytes<=140737488355328) (hm:0 < m) (v':Value) (w':World) (hr:(Builtin.append_ #[t,t] ty #[v, .slice (some a) m c]).run P w=.ok v' w') :
 v'.ownBlock=v.ownBlock\/v'.ownBlock=some w.1.size:=by
 subst hsize;subst hby
 have hsmall:n+m<=9223372036854775807:=by simp only[maxLen]at h63;omega
 rcases hown.2 with⟨rfl,rfl⟩ | ⟨g,cap,cur,rfl,hbg,hg,hnc,hcm,hcs,htake⟩
 ·have hr2:=run_append_nil (P:=P) w t ty e i z ht hi hz a m c news hl hnews (by omega) (by omega) (by have hb:=hbytes;simp only[Nat.zero_add]at hb;omega);rw[hr2]at hr;injection hr with h1 h2;subst h1;exact .inr rfl
 ·by_cases hroom:n+m<=cap
  ·have hfit:n * i.size+news.length<=cur.size:=by rw[hl,hcs,<-Nat.add_mul];exact Nat.mul_le_mul_right _ hroom
   have hr2:=run_append_room (P:=P) w t ty e i ht hi g n cap cur hg a m c news hl hnews h1 hroom hfit;rw[hr2]at hr;injection hr with h1 h2;subst h1;exact .inl rfl
  ·have holds:∀ j u,xs[j]? = some u->w.cell? ((⟨g,0,none⟩:Addr).add j)=some u:=hown.cells (g:=g) rfl;have hr2:=run_append_grow (P:=P) w t ty e i z ht hi hz ⟨g,0,none⟩ n cap xs hown.1 holds a m c news hl hnews (by omega) (by omega) (growslice_fits (by omega) hbytes);rw[hr2]at hr;injection hr with h1 h2;subst h1;exact .inr rfl
theorem qYa:∀ (ts:List qQ) (us:List Value),(∀ u∈us,u.oneCell'=true)->∀ x∈qZK ts us,x.oneCell'=true
 | [],_,_,x,h=>by simp[qZK]at h
 | _ :: _,[],_,x,h=>by simp[qZK]at h
 | t :: ts,u :: us,ho,x,h=>by
  rw[qZK,List.mem_append]at h;rcases h with h | h
  ·exact nodeC_one t (ho u (by simp)) x h
  ·exact qYa ts us (fun y hy=>ho y (by simp[hy])) x h
theorem qW9:∀ (ts:List qQ) (us:List Value),ts.length=us.length->(qZK ts us).length=ts.length * 6
 | [],_,_=>rfl
 | _ :: _,[],h=>by simp at h
 | t :: ts,u :: us,h=>by
  rw[qZK,lL,qW9 ts us (by simpa using h)];simp only[qS,lO,lZ];omega
theorem vV.one{w:World}{ok:Nat->Prop}:∀ (ts:List qQ) (us:List Value),vV w ok ts us->∀ u∈us,u.oneCell'=true
 | [],[],_,u,h=>by simp at h
 | .mk _ _ _ _ _ _ :: ts,v :: vs,h,u,hu=>by
  rcases List.mem_cons.1 hu with rfl | hu
  ·obtain⟨xs,_,h2,_⟩:=h.1;rcases h2.2 with⟨rfl,_⟩ | ⟨g,cap,cur,rfl,_⟩ <;> rfl
  ·exact vV.one ts vs h.2 u hu
 | [],_ :: _,h,_,_=>h.elim
 | _ :: _,[],h,_,_=>h.elim
theorem qUC{o:Oper}{a:Act}{K:Act->World->Prop}{Q:Exit->Act->World->Prop}{w:World}{lo:Nat}{acc ts:List qQ}{us:List Value}{v:Value}{ad:Addr}{c:Nat}(s x:Operand)
 (ho:o.op=.call { callee:=.builtin .append,args:=#[s,x],argTypes:=#[55,55] }) (hB:zC w lo acc v)
 (hs:a.eval s=v) (hx:a.eval x=.slice (some ad) ts.length c) (hm:0 < ts.length) (hnews:∀ (j:Nat) (u:Value),(qZK ts us)[j]? = some u->w.cell? (ad.add j)=some u)
 (hn:acc.length+ts.length<=1000000) (hlo:lo<=w.1.size) (hL:vV w (fun g=>lo<=g/\some g≠v.ownBlock) ts us)
 (h:∀ v' w',zC w' lo (acc++ts) v'->w.grownBy w' v.ownBlock->K (a.put o.dst v') w') :
 o.wp prog a w K Q:=by
 obtain⟨vs,h1,h2⟩:=hB;obtain⟨i0,hi,hz0,hz1,hz2⟩:=info_parts info57;have hlen:=vV.length acc vs h2;have hlen2:=vV.length ts us hL;have hone:=qYa ts us (vV.one ts us hL);have hrl:=qW9 ts us hlen2;obtain⟨v',w',hr,ho',hg',_⟩:=run_append_own (P:=prog) w lo 55 o.type 57 i0 _ 6 80 underlying55 hi hz0 hz1 hz2 rfl (by decide) v acc.length _ h1 ad ts.length c (qZK ts us) hrl hnews hone (by unfold maxLen;omega) (by omega) hlo;have hbk:=qX7 (P:=prog) w lo 55 o.type 57 i0 _ 6 80 underlying55 hi hz0 hz1 hz2 v acc.length _ h1 ad ts.length c (qZK ts us) hrl hnews hone (by unfold maxLen;omega) (by omega) hm v' w' hr;have hst:∀ g,g < w.1.size->some g≠v.ownBlock->w'.1[g]? = w.1[g]?:=fun g hg hne=>hg'.block g hg hne
 have hv':∀ g,g < w.1.size->some g≠v.ownBlock->some g≠v'.ownBlock:=fun g hg hne e=>by
  rcases hbk with h | h
  ·exact hne (e.trans h)
  ·rw[h]at e;injection e with e;omega
 have hK:=h v' w' ⟨vs++us,by rw[qJS acc ts vs us hlen,lL];exact ho',
  vV.append acc ts vs us (vV.move (fun g hg hok=>⟨⟨hok.1,hv' g hg hok.2⟩,hst g hg hok.2⟩) acc vs h2) (vV.move (fun g hg hok=>⟨⟨hok.1,hv' g hg hok.2⟩,hst g hg hok.2⟩) ts us hL)⟩ hg'
 unfold Oper.wp execOp;simp only[ho,resolve,invoke,builtin,Sem.run_bind,Sem.run_pure,Result.andThen_ok,List.map_toArray,List.map_cons,List.map_nil,hs,hx,hr];exact hK
theorem qPe{o:Oper}{a:Act}{K:Act->World->Prop}{Q:Exit->Act->World->Prop}{w:World}{lo lo1 S:Nat}{acc:List qQ}{t:qQ}{v u:Value}(s x:Operand)
 (ho:o.op=.call { callee:=.builtin .append,args:=#[s,x],argTypes:=#[55,55] }) (hB:zC w lo acc v) (hK:zC w lo1 t.kids u) (hlo:lo<=lo1) (hv:∀ g,v.ownBlock=some g->g < lo1) (hl1:lo1<=w.1.size)
 (hs:a.eval s=v) (hS:w.1.size=S) (hx:a.eval x=.slice (some ⟨S,0,none⟩) 1 1) (hn:acc.length < 1000000)
 (h:∀ v' w',zC w' lo (acc++[t]) v'->(w.alloc (.cells (qS t u).toArray 57)).grownBy w' v.ownBlock->K (a.put o.dst v') w') :
 o.wp prog a (w.alloc (.cells (qS t u).toArray 57)) K Q:=by
 subst hS;refine qUC s x ho (hB.alloc _) (ts:=[t]) (us:=[u]) hs hx (by simp) ?_ (by simp;omega) (by simp;omega) ⟨xZ.move (fun g hg hok=>?_) t u (hK.alloc (.cells (qS t u).toArray 57)).lies,trivial⟩ h
 ·simpa[qZK]using qUk w t u 57
 ·have hne:some g≠v.ownBlock:=fun e=>by have:=hv g e.symm;omega
  exact⟨⟨by omega,hne⟩,rfl⟩
def jY:Obj:=.cells #[.string ⟨#[]⟩, .string ⟨#[]⟩, .int .u64 0, .int .i64 0, .int .i64 0, .slice none 0 0] 57
def qXT(t:Tok):Obj:=.cells #[.int .i64 t.kind, .string ⟨t.text.toArray⟩, .int .u64 t.num, .int .i64 t.line, .int .i64 t.col] 49
def wD(k x:List UInt8)(n ln c:Int)(v:Value):Obj:=.cells #[.string ⟨k.toArray⟩, .string ⟨x.toArray⟩, .int .u64 n, .int .i64 ln, .int .i64 c,v] 57
theorem wH.newO(t:Tok)(w:World):wH w.1.size t (w.alloc (qXT t)):=wH.new t w
structure St(w0:World)(B:Nat)(l:List Tok)(d:Int)(w:World):Prop where
 ps:vP B l d w
 gr:w0.grownBy w (some B)
 res:zI w0.1.size [] [] 0 0 0 (.slice none 0 0) w
 hB:B < w0.1.size
theorem St.start{B:Nat}{l:List Tok}{d:Int}{w:World}(h:vP B l d w):St w B l d (w.alloc jY) :=
 ⟨h.below ((Below.refl _ _).alloc (Nat.le_refl _) _),World.grownBy_alloc _ _ _,zI.new [] [] 0 0 0 (.slice none 0 0) w,h.lt⟩
theorem St.lt{w0:World}{B:Nat}{l:List Tok}{d:Int}{w:World}(h:St w0 B l d w):w0.1.size < w.1.size:=h.res.lt
theorem St.call{w0:World}{B:Nat}{l l':List Tok}{d d':Int}{w w':World}(h:St w0 B l d w)(hP:vP B l' d' w')(hg:w.grownBy w' (some B)):St w0 B l' d' w' :=
 ⟨hP,qR h.gr hg,h.res.grown hg (by have:=h.hB;simp;omega),h.hB⟩
theorem St.below{w0:World}{B:Nat}{l:List Tok}{d:Int}{w w':World}(h:St w0 B l d w)(hb:Below w.1.size w w'):St w0 B l d w':=h.call (h.ps.below hb) (zV hb _)
theorem St.alloc{w0:World}{B:Nat}{l:List Tok}{d:Int}{w:World}(h:St w0 B l d w)(o:Obj):St w0 B l d (w.alloc o):=h.below ((Below.refl _ _).alloc (Nat.le_refl _) o)
theorem St.drew{w0:World}{B:Nat}{l:List Tok}{d:Int}{w:World}(h:St w0 B l d w):St w0 B l d w.drew:=h.below (Below.refl _ _).drew
theorem St.local{w0:World}{B:Nat}{l:List Tok}{d:Int}{w w':World}{r:Option Nat}(h:St w0 B l d w)(hg:w.grownBy w' r)(hr:∀ k,r=some k->w0.1.size < k):St w0 B l d w':=by
 have hB:=h.hB;have h1:=h.lt;refine⟨h.ps.grown hg (fun k e=>by have:=hr k e;omega),?_,h.res.grown hg (fun e=>by have:=hr _ e.symm;omega),hB⟩;exact⟨hg.os.trans h.gr.os,hg.tape.trans h.gr.tape,hg.output.trans h.gr.output,Nat.le_trans h.gr.size hg.size,fun j hj hne=>(hg.block j (by omega) (fun e=>by have:=hr j e.symm;omega)).trans (h.gr.block j hj hne)⟩
theorem St.setN{w0:World}{B:Nat}{l:List Tok}{d:Int}{w:World}(h:St w0 B l d w){k:Nat}(hk:w0.1.size < k)(o:Nat)(v:Value):St w0 B l d (w.setCell ⟨k,o,none⟩ v) :=
 h.local (jM w k o v) (fun j e=>by cases e;exact hk)
theorem St.pan{w0:World}{B:Nat}{l:List Tok}{d:Int}{w w':World}{e:Ending}{ln c code:Int}(h:St w0 B l d w)(hp:Pan B ln c code w e w'):Pan B ln c code w0 e w':=⟨hp.1,qR h.gr hp.2⟩
theorem St.fin{w0:World}{B:Nat}{l:List Tok}{d:Int}{w:World}{t:qQ}{v:Value}(h:St w0 B l d w)(hb:zC w (w0.1.size+1) t.kids v)(a b c d' e f:Value) :
 qXV B d w0 (.ok t l) (.returned (qZ t v)) (six w w0.1.size a b c d' e f):=ppost_six rfl h.hB h.ps h.gr hb a b c d' e f
theorem six_alloc{w:World}{k:Nat}(h:k < w.1.size)(o:Obj)(a b c d e f:Value):six (w.alloc o) k a b c d e f=(six w k a b c d e f).alloc o:=by
 unfold six;rw[World.setCell_alloc_past _ _ _ _ h,World.setCell_alloc_past _ _ _ _ (by simpa using h),World.setCell_alloc_past _ _ _ _ (by simpa using h),World.setCell_alloc_past _ _ _ _ (by simpa using h),World.setCell_alloc_past _ _ _ _ (by simpa using h),World.setCell_alloc_past _ _ _ _ (by simpa using h)]
theorem St.finA{w0:World}{B:Nat}{l:List Tok}{d:Int}{w:World}{t:qQ}{v:Value}{o:Obj}(h:St w0 B l d (w.alloc o))(hk:w0.1.size < w.1.size)(hb:zC (w.alloc o) (w0.1.size+1) t.kids v)(a b c d' e f:Value) :
 qXV B d w0 (.ok t l) (.returned (qZ t v)) ((six w w0.1.size a b c d' e f).alloc o):=by
 rw[<-six_alloc hk];exact h.fin hb a b c d' e f
structure Nd(N:Nat)(k x:List UInt8)(n ln c:Int)(v:Value)(ts:List qQ)(w:World):Prop where
 nd:zI N k x n ln c v w
 bd:zC w (N+1) ts v
theorem Nd.lt{N:Nat}{k x:List UInt8}{n ln c:Int}{v:Value}{ts:List qQ}{w:World}(h:Nd N k x n ln c v ts w):N < w.1.size:=h.nd.lt
theorem Nd.grown{N:Nat}{k x:List UInt8}{n ln c:Int}{v:Value}{ts:List qQ}{w w':World}{r:Option Nat}(h:Nd N k x n ln c v ts w)(hg:w.grownBy w' r)(hr:∀ j,r=some j->j < N\/w.1.size<=j):Nd N k x n ln c v ts w' :=
 ⟨h.nd.grown hg (fun e=>by have:=hr N e.symm;have:=h.lt;omega),h.bd.grown hg (fun j e=>by have:=hr j e;omega)⟩
theorem Nd.call{N B:Nat}{k x:List UInt8}{n ln c:Int}{v:Value}{ts:List qQ}{w w':World}(h:Nd N k x n ln c v ts w)(hg:w.grownBy w' (some B))(hB:B < N):Nd N k x n ln c v ts w':=h.grown hg (fun j e=>by cases e;exact .inl hB)
theorem Nd.below{N:Nat}{k x:List UInt8}{n ln c:Int}{v:Value}{ts:List qQ}{w w':World}(h:Nd N k x n ln c v ts w)(hb:Below w.1.size w w'):Nd N k x n ln c v ts w':=h.grown (zV hb none) (fun _ e=>by cases e)
theorem Nd.drew{N:Nat}{k x:List UInt8}{n ln c:Int}{v:Value}{ts:List qQ}{w:World}(h:Nd N k x n ln c v ts w):Nd N k x n ln c v ts w.drew:=h.below (Below.refl _ _).drew
theorem Nd.new(k x:List UInt8)(n ln c:Int)(w:World):Nd w.1.size k x n ln c (.slice none 0 0) [] (w.alloc (wD k x n ln c (.slice none 0 0))):=⟨zI.new k x n ln c _ w,zC.nil _ _⟩
theorem qXe{t:Tok}{r:List Tok}(h:qZY (t :: r))(hk:¬t.kind=3):t.text≠[]:=fun e=>by
 cases r with
 | nil=>exact hk h.1
 | cons u r=>exact h.1 e
theorem qV7(d:Int):vM 109 (fun p=>#[p]) d wQ:=by
 intro B l w h _;obtain⟨t,r,rfl⟩:=h.ends.ne;have S0:=St.start h;have H:=hI (kY B t r d _ S0.ps);have HS:=hI S0;have hfk:=yW;clear h S0;unfold jY at *;go_enter func109,ntmps109
 go_wp2_with fail
 refine(H.o).mono ?_;rintro e w1 ⟨rfl,hb⟩;have S1:=HS.o.below hb;clear hb H HS;unfold vT xA;by_cases hk:t.kind=1
 ·have hkb:(t.kind == 1)=true:=by simpa using hk
  have HT:=hI (vB B t r d w1 S1.ps (qXe S1.ps.ends (by omega)));have hres:wQ (t :: r)=.ok (.mk zD [] t.num t.line t.col []) r:=by simp[wQ,jV,hdT,PR.bind,hkb]
  have HR:=hI hres;have HS:=hI S1;clear hres hk S1;go_wp2_with fail
  refine(HT.o).mono ?_;rintro e w2 ⟨rfl,hP2,hg2⟩;have HN:=hI (jI t ⟨#[110,117,109]⟩ ⟨#[]⟩);have S2:=hI ((HS.o.call hP2 hg2).alloc (qXT t));have L2:=hI (wH.newO t w2);unfold qXT vT xA at *;clear hP2 hg2 HT HS;go_wp2_with fail
  refine(HN.o _).mono ?_;rintro e w3 ⟨rfl,hb3⟩;have S3:=S2.o.below hb3;have L3:=L2.o.below hb3;have hs1:=S3.lt;have hs2:=L3.lt;have q2:=L3.c2;have⟨r0,r1,r2,r3,r4,r5,_⟩:=S3.res.a;have⟨g0,g1,g2,g3,g4,g5,_⟩:=S3.res.b;have HS:=hI S3;clear HN L3 S3 hb3 L2 S2;go_wp2
  refine bodyPost_ret (v:=qZ (.mk zD [] t.num t.line t.col []) (.slice none 0 0)) (by simp[results,results109,go_sem,qZ,qQ.kind,qQ.text,qQ.num,qQ.line,qQ.col,zD, *]) rfl ?_;rw[HR.o];exact(HS.o.alloc _).finA hs1 (zC.nil _ _) _ _ _ _ _ _
 ·have hkb:(t.kind == 1)=false:=by simpa using hk
  have HT:=hI (qQ8 B t r d w1 S1.ps);have hres:wQ (t :: r)=.bad t.line t.col 30:=by simp[wQ,jV,hdT,PR.bind,hk]
  have HR:=hI hres;have HS:=hI S1;clear hres hk S1;go_wp2_with fail
  refine(HT.o).mono ?_;rintro e w2 ⟨rfl,hp⟩;refine⟨rfl,?_⟩;rw[HR.o];exact HS.o.pan ⟨rfl,hp⟩
theorem vP.deep{B:Nat}{l:List Tok}{d:Int}{w:World}(h:vP B l d w){d':Int}(hd:0<=d'/\d'<=60):vP B l d' (w.setCell ⟨B,1,none⟩ (.int .i64 d')):=by
 obtain⟨lo,T,o,c,h⟩:=h;have h0:=h.c0;have h1:=h.c1;have g0:=h.f0;have g1:=h.f1;have hg:=jM w B 1 (.int .i64 d');have hT:=h.hT;refine⟨lo,T,o,c,by simp[go_sem, *],by simp[go_sem, *],by simp[go_sem, *],by simp[go_sem, *],fun k hk=>(h.row k hk).grown hg (by simp;omega),h.ends,hT,h.hc,h.hm,h.hl,h.ht,hd,h.tab.under ?_,h.hlo⟩;exact(Below.refl _ _).grown hg (by have:=h.lt;have:=h.hlo;omega) (fun k e=>by cases e;exact h.hlo)
theorem vP.c1{B:Nat}{l:List Tok}{d:Int}{w:World}(h:vP B l d w):w.cell? ⟨B,1,none⟩=some (.int .i64 d)/\w.frozen? ⟨B,1,none⟩=false/\0<=d/\d<=60:=by
 obtain⟨lo,T,o,c,h⟩:=h;exact⟨h.c1,h.f1,h.hd⟩
theorem zC.shape{w:World}{lo:Nat}{ts:List qQ}{v:Value}(h:zC w lo ts v):∃ p n c,v=.slice p n c:=by
 obtain⟨vs,h1,_⟩:=h;rcases h1.2 with⟨rfl,_⟩ | ⟨g,cap,cur,rfl,_⟩
 ·exact⟨_,_,_,rfl⟩
 ·exact⟨_,_,_,rfl⟩
theorem qXV.cases{B:Nat}{d:Int}{w:World}{p:PR qQ}{e:Ending}{w':World}(h:qXV B d w p e w')(ho:p≠.out) :
 (∃ t l q n c,p=.ok t l/\e=.returned (qZ t (.slice q n c))/\zC w' w.1.size t.kids (.slice q n c)/\vP B l d w'/\w.grownBy w' (some B)) \/
 ∃ ln c code,p=.bad ln c code/\e=.panicked [{ v:=qXo ln c code,recovered:=false }]/\w.grownBy w' (some B):=by
 cases p with
 | ok t l =>
  obtain⟨v,rfl,hb,hP,hg⟩:=h;obtain⟨q,n,c,rfl⟩:=hb.shape;exact .inl ⟨t,l,q,n,c,rfl,rfl,hb,hP,hg⟩
 | bad ln c code=>exact .inr ⟨ln,c,code,rfl,h.1,h.2⟩
 | out=>exact absurd rfl ho
theorem wT(g:Nat)(d:Int)(p:Int->List Tok->PR qQ)(hf:∀ (args:Array Value) (w:World),(callFunc g args).run prog w=.ok (.enter g args) w)(hp:vM g (fun p=>#[p]) (d+1) (p (d+1))) :
 ∀ (B:Nat) (l:List Tok) (w:World),vP B l d w->xX d p l≠.out->Calls prog 106 #[.pointer (some ⟨B,0,none⟩), .func (.func g) #[.pointer (some ⟨B,0,none⟩)] #[]] w (qXV B d w (xX d p l)):=by
 intro B l w h hno;obtain⟨t,r,rfl⟩:=h.ends.ne;have S0:=St.start h;obtain⟨c1,f1,hd0,hd6⟩:=S0.ps.c1;have HS:=hI S0;have hHB:=S0.hB;have hHz:=S0.lt;by_cases hd:d=60
 ·have hres:xX d p (t :: r)=.bad t.line t.col 31:=by simp[xX,hd,qWQ,hdT]
  have H:=hI (qPy B t r d 31 _ S0.ps);have HR:=hI hres;subst hd;clear h S0 hres hno;unfold jY at *;go_enter func106,ntmps106
  go_wp2_with fail
  refine(H.o).mono ?_;rintro e w2 ⟨rfl,hp2⟩;refine⟨rfl,?_⟩;rw[HR.o];exact HS.o.pan ⟨rfl,hp2⟩
 ·have hres:xX d p (t :: r)=p (d+1) (t :: r):=by simp[xX,hd]
  rw[hres]at hno;have hdb:(d == 60)=false:=by simpa using hd
  have P1:=S0.ps.deep (d':=d+1) (by omega);have S1:=S0.call P1 (jM _ _ _ _);have hw0:=World.setCell_alloc_past (w:=w) jY B 1 (.int .i64 (d+1)) hHB;rw[hw0]at P1 S1;have H:=hI (hp B (t :: r) _ P1 hno);have HR:=hI hres;have HF:=hI hf;have HS1:=hI S1;have hw:wrap64 (d+1)=d+1:=by unfold wrap64;omega
  have HNO:=hI hno;clear h S0 hres hno hd S1 P1 HS hf hp hw0;unfold jY at *;have hf:=HF.o;go_enter func106,ntmps106
  go_wp2_with fail
  refine(H.o).mono ?_;intro e w2 hq;rcases hq.cases HNO.o with⟨t2,l2,q,n,c,he,rfl,hb,hP,hg⟩ | ⟨ln,c,code,he,rfl,hg⟩
  ·have S2:=HS1.o.call hP hg;obtain⟨c1',f1',_,_⟩:=hP.c1;have HB:=hI hb;have HE:=hI (HR.o.trans he);have S3:=hI (S2.call (hP.deep (d':=d) (by omega)) (jM _ _ _ _));have hs2:=S2.lt;have hBs:=hP.lt;have hr:=S2.res;have⟨r0,r1,r2,r3,r4,r5,_⟩:=hr.a;have⟨g0,g1,g2,g3,g4,g5,_⟩:=hr.b;clear hr S2 hP hg hb he H HS1 hf HF hq HNO HR c1 f1;unfold qZ;go_wp2_with fail
   refine bodyPost_ret (v:=qZ t2 (.slice q n c)) (by simp[results,results106,go_sem,qZ, *]) rfl ?_;rw[HE.o];have hb2:zC w2 (w.1.size+1) t2.kids (.slice q n c):=by simpa using HB.o
   exact(S3.o.alloc _).finA (by simpa using hs2) ((hb2.grown (jM _ _ _ _) (fun j e=>by cases e;exact .inl (by omega))).alloc _) _ _ _ _ _ _
  ·refine⟨rfl,?_⟩;rw[HR.o,he];exact HS1.o.pan ⟨rfl,hg⟩
def aggN(k x:List UInt8)(m ln c:Int)(q:Option Addr)(vn vc:Nat):Value:=.agg #[.string ⟨k.toArray⟩, .string ⟨x.toArray⟩, .int .u64 m, .int .i64 ln, .int .i64 c, .slice q vn vc]
theorem jF(w:World):Calls prog 92 #[.bool true] w fun e w'=>e=.returned (.tuple #[])/\w=w':=by
 go_enter func92,ntmps92
 go_wp2
 go_end0;exact⟨rfl,rfl⟩
def qJl(m:Int)(vn:Nat)(lo hi:Int):Bool:=m == 0 && decide (lo<=vn) && decide ((vn:Int)<=hi)
theorem qYt(k x:List UInt8)(m ln c:Int)(q:Option Addr)(vn vc:Nat)(lo hi:Int)(w:World) :
 Calls prog 110 #[aggN k x m ln c q vn vc, .int .i64 lo, .int .i64 hi] w fun e w'=>e=.returned (.bool (qJl m vn lo hi))/\Below w.1.size w w':=by
 unfold aggN qJl;cases h1:(m == 0) <;> cases h2:decide (lo<=(vn:Int)) <;> cases h3:decide ((vn:Int)<=hi) <;>
 ·go_enter func110,ntmps110
  go_wp2
  go_ret;exact⟨rfl,(Below.refl _ _).alloc (Nat.le_refl _) _⟩
def bareB(x:List UInt8)(m:Int)(vn:Nat)(lo hi:Int):Bool:=x == [] && qJl m vn lo hi
theorem bare_any(k x:List UInt8)(m ln c:Int)(q:Option Addr)(vn vc:Nat)(lo hi:Int)(w:World) :
 Calls prog 93 #[aggN k x m ln c q vn vc, .int .i64 lo, .int .i64 hi] w fun e w'=>e=.returned (.bool (bareB x m vn lo hi))/\Below w.1.size w w':=by
 have H:=hI (qYt k x m ln c q vn vc lo hi (w.alloc (.cells #[.string ⟨k.toArray⟩, .string ⟨x.toArray⟩, .int .u64 m, .int .i64 ln, .int .i64 c, .slice q vn vc] 57)));unfold aggN at *;unfold bareB;have hb:=(Below.refl w.1.size w).alloc (Nat.le_refl _) (.cells #[.string ⟨k.toArray⟩, .string ⟨x.toArray⟩, .int .u64 m, .int .i64 ln, .int .i64 c, .slice q vn vc] 57);generalize qJl m vn lo hi=tb at *;cases h1:(x == [])
 ·go_enter func93,ntmps93
  go_wp2_with fail
  go_ret;exact⟨rfl,hb⟩
 ·go_enter func93,ntmps93
  go_wp2_with fail
  refine(H.o).mono ?_;rintro e w1 ⟨rfl,hb1⟩;go_wp2
  go_ret;exact⟨rfl,hb.trans (hb1.mono hb.size)⟩
end Go.Proofs.YtiajhekdhhhghaaGreatDoor
