/- Walks. -/
import Derived.Laws.EntriesVeiled
import Derived.Test.YtiajhekdhhhghaaGreatDoorRows
import Derived.ProofKit
import Derived.LaidMore
import Derived.OpenShut
import Derived.Stop.Joined
import Derived.Deep.Slices
import Derived.Lib.SmallJoins
import Derived.Lib.Join
import Derived.Test.YtiajhekdhhhghaaGreatDoorMak
set_option linter.all false
set_option maxHeartbeats 8000000
set_option maxRecDepth 100000
namespace Go.Proofs.YtiajhekdhhhghaaGreatDoor
open Tryz Go.Proofs.Tryz
open Go Go.RowKit Go.Maps Go.WideMaps
theorem qYp(xs:List (List UInt8))(w:World)(T:TypeId)(i:Nat)(h:i < xs.length):(w.alloc (.cells (xs.map fun x=>Value.string ⟨x.toArray⟩).toArray T)).cell? ⟨w.1.size,i,none⟩=some (.string ⟨xs[i].toArray⟩):=by
 have hb:(w.alloc (.cells (xs.map fun x=>Value.string ⟨x.toArray⟩).toArray T)).1[w.1.size]? = some (.cells (xs.map fun x=>Value.string ⟨x.toArray⟩).toArray T (0,0)):=by
  unfold World.alloc;simp
 unfold World.cell?;rw[hb];simp[h]
theorem hp_new(w:World)(o:Obj):(w.alloc o).1[w.1.size]? = some o:=by
 unfold World.alloc;simp
theorem jX.new(w:World)(cs:Array Value)(T:TypeId):jX (w.alloc (.cells cs T)) w.1.size T:=⟨cs,(0,0),hp_new w _⟩
def qUX(r:Nat):List (List UInt8×Nat)->List (List UInt8)->Bool
 | _,[]=>true
 | R,x :: t=>(kE x R).isNone && qUX r (R++[(x,r)]) t
theorem qXg{r:Nat}:∀ {xs:List (List UInt8)} {R:List (List UInt8×Nat)},qUX r R xs=true->∀ i (h:i < xs.length),kE xs[i] (R++(xs.take i).map fun x=>(x,r))=none
 | x :: t,R,h,0,_=>by
  rw[qUX,bE]at h;simpa using Option.isNone_iff_eq_none.1 h.1
 | x :: t,R,h,i+1,hi=>by
  rw[qUX,bE]at h;have:=qXg h.2 i (by simpa using hi);simpa using this
theorem qJz(c:vE)(r f n:Nat)(caps:Array Value)(bb:Bool)(xs:List (List UInt8))(g N8 Mr:Nat)(R:List (List UInt8×Nat))(w:World)(hf:qUZ c r=.func (.func f) #[] caps)(hb:decide (r<=2)=bb)(hlen:xs.length=n)(hM:w.cell? ⟨N8,0,none⟩=some (.map (some Mr)))(hR:qQG w Mr R c)
 (hxs:∀ i (h:i < xs.length),w.cell? ⟨g,i,none⟩=some (.string ⟨xs[i].toArray⟩)) (hl:∀ x∈xs,x.length<=1000) (hn:∀ i (h:i < xs.length),kE xs[i] (R++(xs.take i).map fun x=>(x,r))=none) (hR9:R.length+xs.length<=900) :
 Calls prog 84 #[.agg #[.bool bb, .func (.func f) #[] caps], .slice (some ⟨g,0,none⟩) n n, .pointer (some ⟨N8,0,none⟩)] w fun e w'=>e=.returned (.tuple #[])/\qQG w' Mr (R++xs.map fun x=>(x,r)) c/\w.grownBy w' (some Mr):=by
 subst hb hlen;exact cput_any c r f caps xs g N8 Mr R w hf hM hR hxs hl hn hR9
theorem qJw{xs:List (List UInt8)}(h:xs.all (fun x=>decide (x.length<=1000))=true):∀ x∈xs,x.length<=1000:=fun x hx=>of_decide_eq_true (List.all_eq_true.1 h x hx)
structure OIn(B N1 N6 N8 Mr:Nat)(R:List (List UInt8×Nat))(w W:World):Prop where
 bl:Below w.1.size w W
 cc:W.cell? ⟨N1,0,none⟩=some (.pointer (some ⟨B,0,none⟩))
 ce:W.cell? ⟨N6,0,none⟩=some (.func (.func 81) #[] #[.pointer (some ⟨N1,0,none⟩)])
 m8:W.cell? ⟨N8,0,none⟩=some (.map (some Mr))
 rp:qQG W Mr R ⟨N1,N6⟩
 k1:jX W N1 135
 k6:jX W N6 136
 lo:w.1.size<=N1/\w.1.size<=N6/\w.1.size<=N8/\w.1.size<=Mr
 ne:N1≠Mr/\N6≠Mr/\N8≠Mr
theorem OIn.below{B N1 N6 N8 Mr:Nat}{R:List (List UInt8×Nat)}{w W W':World}(h:OIn B N1 N6 N8 Mr R w W)(hb:Below W.1.size W W'):OIn B N1 N6 N8 Mr R w W' :=
 ⟨h.bl.trans (hb.mono h.bl.size),kP hb h.cc,kP hb h.ce,kP hb h.m8,h.rp.kept (hb.block _ h.rp.lt),h.k1.turn (hb.block _ h.k1.lt),h.k6.turn (hb.block _ h.k6.lt),h.lo,h.ne⟩
theorem OIn.put{B N1 N6 N8 Mr:Nat}{R R':List (List UInt8×Nat)}{w W W':World}(h:OIn B N1 N6 N8 Mr R w W)(hg:W.grownBy W' (some Mr))(hr:qQG W' Mr R' ⟨N1,N6⟩):OIn B N1 N6 N8 Mr R' w W':=by
 have st:∀ b,b < W.1.size->b≠Mr->W'.1[b]? = W.1[b]?:=fun b hb hne=>hg.block b hb (fun e=>hne (by injection e))
 have hlo:=h.lo;have s1:=h.bl.size;have kc:∀ {b o:Nat} {u:Value},b≠Mr->W.cell? ⟨b,o,none⟩=some u->W'.cell? ⟨b,o,none⟩=some u:=fun hne hc=>(cB (st _ (qJ hc) hne)).trans hc
 exact⟨⟨hg.os.trans h.bl.os,hg.tape.trans h.bl.tape,hg.output.trans h.bl.output,Nat.le_trans s1 hg.size,fun b hb=>(st b (by omega) (by omega)).trans (h.bl.block b hb)⟩,kc h.ne.1 h.cc,kc h.ne.2.1 h.ce,kc h.ne.2.2 h.m8,hr,h.k1.turn (st _ h.k1.lt h.ne.1),h.k6.turn (st _ h.k6.lt h.ne.2.1),h.lo,h.ne⟩
theorem qYJ(B:Nat)(w:World) :
 Calls prog 64 #[.pointer (some ⟨B,0,none⟩)] w fun e w'=>∃ cl Mr,e=.returned (.map (some Mr))/\Below w.1.size w w'/\w'.cell? ⟨cl.c,0,none⟩=some (.pointer (some ⟨B,0,none⟩))/\w'.cell? ⟨cl.eq,0,none⟩=some (.func (.func 81) #[] #[.pointer (some ⟨cl.c,0,none⟩)])/\qJs w' Mr cl/\jX w' cl.c 135/\jX w' cl.eq 136/\w.1.size<=Mr:=by
 have hmm:=@run_makeMap prog;go_enter func64,ntmps64
 have hO:OIn B w.1.size (w.1.size+1) (w.1.size+1+1+1) (w.1.size+1+1) [] w ((((w.alloc (.cells #[.pointer (some ⟨B,0,none⟩)] 135)).alloc (.cells #[.func (.func 81) #[] #[.pointer (some ⟨w.1.size,0,none⟩)]] 136)).alloc (.map #[] 0)).alloc (.cells #[.map (some (w.1.size+1+1))] 118)):=by
  have h2:=qQG.made ((w.alloc (.cells #[.pointer (some ⟨B,0,none⟩)] 135)).alloc (.cells #[.func (.func 81) #[] #[.pointer (some ⟨w.1.size,0,none⟩)]] 136)) ⟨w.1.size,w.1.size+1⟩;rw[show((w.alloc (.cells #[.pointer (some ⟨B,0,none⟩)] 135)).alloc (.cells #[.func (.func 81) #[] #[.pointer (some ⟨w.1.size,0,none⟩)]] 136)).1.size=w.1.size+1+1 by simp]at h2;have k1:=(((jX.new w #[.pointer (some ⟨B,0,none⟩)] 135).turn (Below.heap_alloc _ (.cells #[.func (.func 81) #[] #[.pointer (some ⟨w.1.size,0,none⟩)]] 136) _ (by simp))).turn (Below.heap_alloc _ (.map #[] 0) _ (by simp;omega))).turn (Below.heap_alloc _ (.cells #[.map (some (w.1.size+1+1))] 118) _ (by simp;omega));have k6:=((jX.new (w.alloc (.cells #[.pointer (some ⟨B,0,none⟩)] 135)) #[.func (.func 81) #[] #[.pointer (some ⟨w.1.size,0,none⟩)]] 136).turn (Below.heap_alloc _ (.map #[] 0) _ (by simp))).turn (Below.heap_alloc _ (.cells #[.map (some (w.1.size+1+1))] 118) _ (by simp));rw[show(w.alloc (.cells #[.pointer (some ⟨B,0,none⟩)] 135)).1.size=w.1.size+1 by simp]at k6;exact⟨bal (bal (bal (bal (Below.refl _ _) _) _) _) _,by simp[go_sem],by simp[go_sem],by simp[go_sem],h2.kept (Below.heap_alloc _ _ _ (by simp)),k1,k6,by omega,by omega⟩
 have HO:=hI hO;clear hO;have hsz0:((((w.alloc (.cells #[.pointer (some ⟨B,0,none⟩)] 135)).alloc (.cells #[.func (.func 81) #[] #[.pointer (some ⟨w.1.size,0,none⟩)]] 136)).alloc (.map #[] 0)).alloc (.cells #[.map (some (w.1.size+1+1))] 118)).1.size=w.1.size+1+1+1+1:=by simp
 go_wp2_with fail
 clear hmm;generalize ((((w.alloc _).alloc _).alloc _).alloc _)=W0 at *;have HB:=hI (show Below W0.1.size W0 (W0.alloc (.cells #[.string ⟨#[117,33]⟩, .string ⟨#[38,38]⟩, .string ⟨#[124,124]⟩] 9))from bal (Below.refl _ _) _);have HO:=hI (HO.o.below HB.o);have HS:=hI (show ∀ i (h:i < ([[117,33],[38,38],[124,124]]:List (List UInt8)).length),(W0.alloc (.cells #[.string ⟨#[117,33]⟩, .string ⟨#[38,38]⟩, .string ⟨#[124,124]⟩] 9)).cell? ⟨W0.1.size,i,none⟩=some (.string ⟨(([[117,33],[38,38],[124,124]]:List (List UInt8))[i]).toArray⟩) by
  rw[show(.cells #[.string ⟨#[117,33]⟩, .string ⟨#[38,38]⟩, .string ⟨#[124,124]⟩] 9:Obj)=.cells (([[117,33],[38,38],[124,124]]:List (List UInt8)).map fun x=>Value.string ⟨x.toArray⟩).toArray 9 from rfl];exact qYp [[117,33],[38,38],[124,124]] W0 9)
 rw[hsz0]at HS;refine(qJz ⟨w.1.size,w.1.size+1⟩ 0 78 3 #[] true [[117,33],[38,38],[124,124]] (w.1.size+1+1+1+1) (w.1.size+1+1+1) (w.1.size+1+1) (qQP.take 0) _ rfl rfl rfl HO.o.m8 HO.o.rp HS.o (qJw (by kernel_rfl)) (qXg (by kernel_rfl)) (by simp only[qQP,List.take,List.length];omega)).mono ?_;rintro e W1 ⟨rfl,hr,hg⟩;have HO:=hI (HO.o.put (R':=qQP.take 3) hg hr);clear hr hg HB HS;have ce:=HO.o.ce;have m8:=HO.o.m8;go_wp2_with fail
 clear ce m8;have HB:=hI (show Below W1.1.size W1 (W1.alloc (.cells #[.string ⟨#[61,61]⟩, .string ⟨#[33,61]⟩] 9))from bal (Below.refl _ _) _);have HO:=hI (HO.o.below HB.o);have HS:=hI (show ∀ i (h:i < ([[61,61],[33,61]]:List (List UInt8)).length),(W1.alloc (.cells #[.string ⟨#[61,61]⟩, .string ⟨#[33,61]⟩] 9)).cell? ⟨W1.1.size,i,none⟩=some (.string ⟨(([[61,61],[33,61]]:List (List UInt8))[i]).toArray⟩) by
  rw[show(.cells #[.string ⟨#[61,61]⟩, .string ⟨#[33,61]⟩] 9:Obj)=.cells (([[61,61],[33,61]]:List (List UInt8)).map fun x=>Value.string ⟨x.toArray⟩).toArray 9 from rfl];exact qYp [[61,61],[33,61]] W1 9)
 refine(qJz ⟨w.1.size,w.1.size+1⟩ 1 81 2 #[.pointer (some ⟨w.1.size,0,none⟩)] true [[61,61],[33,61]] W1.1.size (w.1.size+1+1+1) (w.1.size+1+1) (qQP.take 3) _ rfl rfl rfl HO.o.m8 HO.o.rp HS.o (qJw (by kernel_rfl)) (qXg (by kernel_rfl)) (by simp only[qQP,List.take,List.length];omega)).mono ?_;rintro e W2 ⟨rfl,hr,hg⟩;have HO:=hI (HO.o.put (R':=qQP.take 5) hg hr);clear hr hg HB HS;have ce:=HO.o.ce;have m8:=HO.o.m8;go_wp2_with fail
 clear ce m8;have HB:=hI (show Below W2.1.size W2 (W2.alloc (.cells #[.string ⟨#[60]⟩, .string ⟨#[60,61]⟩, .string ⟨#[62]⟩, .string ⟨#[62,61]⟩] 9))from bal (Below.refl _ _) _);have HO:=hI (HO.o.below HB.o);have HS:=hI (show ∀ i (h:i < ([[60],[60,61],[62],[62,61]]:List (List UInt8)).length),(W2.alloc (.cells #[.string ⟨#[60]⟩, .string ⟨#[60,61]⟩, .string ⟨#[62]⟩, .string ⟨#[62,61]⟩] 9)).cell? ⟨W2.1.size,i,none⟩=some (.string ⟨(([[60],[60,61],[62],[62,61]]:List (List UInt8))[i]).toArray⟩) by
  rw[show(.cells #[.string ⟨#[60]⟩, .string ⟨#[60,61]⟩, .string ⟨#[62]⟩, .string ⟨#[62,61]⟩] 9:Obj)=.cells (([[60],[60,61],[62],[62,61]]:List (List UInt8)).map fun x=>Value.string ⟨x.toArray⟩).toArray 9 from rfl];exact qYp [[60],[60,61],[62],[62,61]] W2 9)
 refine(qJz ⟨w.1.size,w.1.size+1⟩ 2 83 4 #[.pointer (some ⟨w.1.size+1,0,none⟩)] true [[60],[60,61],[62],[62,61]] W2.1.size (w.1.size+1+1+1) (w.1.size+1+1) (qQP.take 5) _ rfl rfl rfl HO.o.m8 HO.o.rp HS.o (qJw (by kernel_rfl)) (qXg (by kernel_rfl)) (by simp only[qQP,List.take,List.length];omega)).mono ?_;rintro e W3 ⟨rfl,hr,hg⟩;have HO:=hI (HO.o.put (R':=qQP.take 9) hg hr);clear hr hg HB HS;have ce:=HO.o.ce;have m8:=HO.o.m8;go_wp2_with fail
 clear ce m8;have HB:=hI (show Below W3.1.size W3 (W3.alloc (.cells #[.string ⟨#[117,45]⟩, .string ⟨#[117,126]⟩, .string ⟨#[43]⟩, .string ⟨#[45]⟩, .string ⟨#[42]⟩, .string ⟨#[47]⟩, .string ⟨#[37]⟩, .string ⟨#[60,60]⟩, .string ⟨#[62,62]⟩] 9))from bal (Below.refl _ _) _);have HO:=hI (HO.o.below HB.o);have HS:=hI (show ∀ i (h:i < ([[117,45],[117,126],[43],[45],[42],[47],[37],[60,60],[62,62]]:List (List UInt8)).length),(W3.alloc (.cells #[.string ⟨#[117,45]⟩, .string ⟨#[117,126]⟩, .string ⟨#[43]⟩, .string ⟨#[45]⟩, .string ⟨#[42]⟩, .string ⟨#[47]⟩, .string ⟨#[37]⟩, .string ⟨#[60,60]⟩, .string ⟨#[62,62]⟩] 9)).cell? ⟨W3.1.size,i,none⟩=some (.string ⟨(([[117,45],[117,126],[43],[45],[42],[47],[37],[60,60],[62,62]]:List (List UInt8))[i]).toArray⟩) by
  rw[show(.cells #[.string ⟨#[117,45]⟩, .string ⟨#[117,126]⟩, .string ⟨#[43]⟩, .string ⟨#[45]⟩, .string ⟨#[42]⟩, .string ⟨#[47]⟩, .string ⟨#[37]⟩, .string ⟨#[60,60]⟩, .string ⟨#[62,62]⟩] 9:Obj)=.cells (([[117,45],[117,126],[43],[45],[42],[47],[37],[60,60],[62,62]]:List (List UInt8)).map fun x=>Value.string ⟨x.toArray⟩).toArray 9 from rfl];exact qYp [[117,45],[117,126],[43],[45],[42],[47],[37],[60,60],[62,62]] W3 9)
 refine(qJz ⟨w.1.size,w.1.size+1⟩ 3 79 9 #[] false [[117,45],[117,126],[43],[45],[42],[47],[37],[60,60],[62,62]] W3.1.size (w.1.size+1+1+1) (w.1.size+1+1) (qQP.take 9) _ rfl rfl rfl HO.o.m8 HO.o.rp HS.o (qJw (by kernel_rfl)) (qXg (by kernel_rfl)) (by simp only[qQP,List.take,List.length];omega)).mono ?_;rintro e W4 ⟨rfl,hr,hg⟩;have HO:=hI (HO.o.put (R':=qQP.take 18) hg hr);clear hr hg HB HS;have ce:=HO.o.ce;have m8:=HO.o.m8;go_wp2_with fail
 clear ce m8;have HB:=hI (show Below W4.1.size W4 (W4.alloc (.cells #[.string ⟨#[38]⟩, .string ⟨#[124]⟩, .string ⟨#[94]⟩] 9))from bal (Below.refl _ _) _);have HO:=hI (HO.o.below HB.o);have HS:=hI (show ∀ i (h:i < ([[38],[124],[94]]:List (List UInt8)).length),(W4.alloc (.cells #[.string ⟨#[38]⟩, .string ⟨#[124]⟩, .string ⟨#[94]⟩] 9)).cell? ⟨W4.1.size,i,none⟩=some (.string ⟨(([[38],[124],[94]]:List (List UInt8))[i]).toArray⟩) by
  rw[show(.cells #[.string ⟨#[38]⟩, .string ⟨#[124]⟩, .string ⟨#[94]⟩] 9:Obj)=.cells (([[38],[124],[94]]:List (List UInt8)).map fun x=>Value.string ⟨x.toArray⟩).toArray 9 from rfl];exact qYp [[38],[124],[94]] W4 9)
 refine(qJz ⟨w.1.size,w.1.size+1⟩ 4 80 3 #[] false [[38],[124],[94]] W4.1.size (w.1.size+1+1+1) (w.1.size+1+1) (qQP.take 18) _ rfl rfl rfl HO.o.m8 HO.o.rp HS.o (qJw (by kernel_rfl)) (qXg (by kernel_rfl)) (by simp only[qQP,List.take,List.length];omega)).mono ?_;rintro e W5 ⟨rfl,hr,hg⟩;have HO:=hI (HO.o.put (R':=qQP.take 21) hg hr);clear hr hg HB HS;have m8:=HO.o.m8;go_wp2
 go_ret;exact⟨⟨w.1.size,w.1.size+1⟩,w.1.size+1+1,rfl,HO.o.bl,HO.o.cc,HO.o.ce,HO.o.rp.full,HO.o.k1,HO.o.k6,by omega⟩
open Go Go.RowKit
def qVd(fs:List kI):CR Int :=
 match qQN qZf 0 fs with
 | some (h,i)=>if h.params.length=0 then .ok i else .bad 0 0 44
 | none=>.bad 0 0 44
def qXP(B:Nat)(p:CR Int)(w:World)(e:Ending)(w':World):Prop :=
 match p with
 | .ok i=>e=.returned (.tuple #[])/\∃ w4,Below w.1.size w w4/\w'=w4.setCell ⟨B,2,none⟩ (.int .i64 i)
 | .bad ln co code=>e=.panicked [{ v:=xO ln co code,recovered:=false }]/\Below w.1.size w w'
theorem qXP.okI{B:Nat}{p:CR Int}{w w4:World}{i:Int}(hp:p=.ok i)(hb:Below w.1.size w w4):qXP B p w (.returned (.tuple #[])) (w4.setCell ⟨B,2,none⟩ (.int .i64 i)):=by
 rw[hp];exact⟨rfl,w4,hb,rfl⟩
theorem qXP.badI{B:Nat}{p:CR Int}{w w':World}{ln co code:Int}(hp:p=.bad ln co code)(hb:Below w.1.size w w'):qXP B p w (.panicked [{ v:=xO ln co code,recovered:=false }]) w':=by
 rw[hp];exact⟨rfl,hb⟩
theorem start_any(B L:Nat)(gs:List qI)(fs:List FnM)(FC Mf:Nat)(gv:Value)(Mg Mr F:Nat)(cl:vE)(w:World)(h:BIn B L gs fs FC Mf gv Mg Mr F cl w) :
 Calls prog 67 #[.pointer (some ⟨B,0,none⟩)] w (qXP B (qVd (fs.map (fun f=>f.h))) w):=by
 have H0:=hI h;have c1:=h.c1;have c4:=h.c4;have hfl:=h.fl;have HNA:=hI (fun b w'=>qQk b (.mk [] [] 0 0 0 []) (.slice none 0 0) 44 w');simp only[qZ,qQ.kind,qQ.text,qQ.num,qQ.line,qQ.col,qQ.kids]at HNA;have HP:=hI (show qVd (fs.map (fun f=>f.h))=match qQN qZf 0 (fs.map (fun f=>f.h))with
  | some (h,i)=>if h.params.length=0 then .ok (i:Int)else .bad 0 0 44
  | none=>.bad 0 0 44 from rfl)
 have hlk:=h.fm.look qZf (by unfold qZf maxLen;simp);cases hl:qQN qZf 0 (fs.map (fun f=>f.h))with
 | none =>
  obtain⟨e1,e2⟩:=qKJ hl;have HPN:=hI (HP.o.trans (by rw[hl]:_=.bad 0 0 44));have hm:((fs.map (·.h)).map (·.name))=((fs.map (fun f=>f.h)).map (·.name)):=rfl;rw[hm,e1,e2]at hlk;unfold qZf at hlk;clear h hl e1 e2 HP hm;go_enter func67,ntmps67
  go_wp2_with fail
  refine(HNA.o _ _).mono ?_;rintro e w4 (⟨hbt,rfl,hb4⟩ | ⟨hbt,rfl,hb4⟩)
  ·cases hbt
  ·exact⟨rfl,qXP.badI HPN.o hb4⟩
 | some p =>
  obtain⟨p1,p2⟩:=p;obtain⟨e1,e2,hi,e3⟩:=qJK hl;have HPN:=hI (HP.o.trans (by rw[hl]:_=if p1.params.length=0 then .ok (p2:Int)else .bad 0 0 44));have hm:((fs.map (·.h)).map (·.name))=((fs.map (fun f=>f.h)).map (·.name)):=rfl;rw[hm,e1,e2]at hlk;rw[List.length_map]at hi;obtain⟨f0,f1,f2,f3,f4,f5⟩:=qZv h.frow hi;rw[List.getElem_map]at e3;rw[e3]at f3;have hi63:(p2:Int) < (fs.length:Nat):=by omega
  unfold qZf at hlk;clear h hl e1 e2 HP hm f0 f1 f2 f4 f5;obtain⟨c2u,c2⟩:=H0.o.c2;have b2:=H0.o.bf 2 (by omega);have hBl:B < w.1.size:=qJ c2;go_enter func67,ntmps67
  go_wp2_with fail
  refine(HNA.o _ _).mono ?_;rintro e w4 (⟨hbt,rfl,hb4⟩ | ⟨hbt,rfl,hb4⟩)
  ·have hpl:p1.params.length=0:=by
    have:=of_decide_eq_true hbt;omega
   have HPO:=hI (HPN.o.trans (by rw[if_pos hpl]:_=.ok (p2:Int)));have HB4:=hI hb4;have c2:=kP hb4 c2;have b2:=(hb4.frozen (p:=⟨B,2,none⟩) hBl).trans b2;clear hbt hb4 f3 c1 c4 hlk;go_wp2
   go_end0;exact qXP.okI HPO.o HB4.o
  ·have hpl:¬p1.params.length=0:=by
    intro e;have:=of_decide_eq_false hbt;omega
   exact⟨rfl,qXP.badI (HPN.o.trans (if_neg hpl)) hb4⟩
theorem qPm(p q:Addr)(w:World) :
 CallsD prog 63 #[.pointer (some p), .pointer (some q)] .returning w fun e u' w'=>e=.returned (.tuple #[])/\u'=.returning/\w'=w:=by
 refine callsD_of_wpS func63 rfl fun c₀ cs hu=>?_
 apply wpS_seq;apply wpS_region;simp[wpOpsS,go_sem,recoverD,hu,ntmps63,Exit.thenS];refine wpS_of_wp ?_;change Code.wp _ _ _ { tmps:=#[.pointer (some p), .pointer (some q), .nilIface, .nilIface,undef,undef,undef,undef,undef],defers:=[] } w;generalize hQ:(fun e a' w'=>bodyPostS prog f63 c₀ cs (fun e u' w'=>e=Ending.returned (.tuple #[])/\u'=FrameMode.returning/\w'=w) e a' (c₀ :: cs) w')=Q;go_wp2
 rw[<-hQ];refine⟨rfl, .returning,?_, .tuple #[],by simp[results,results63],rfl,rfl,rfl⟩;cases c₀;simp_all
theorem qYG(v:Value)(w:World):(Instr.typeAssert (.iface 97 v) 20 97 false).run prog w=.ok v w:=by kernel_rfl
structure qKx(b:Nat)(gv fv:Value)(n:Int)(w:World):Prop where
 c0:w.cell? ⟨b,0,none⟩=some gv
 c1:w.cell? ⟨b,1,none⟩=some fv
 c2:w.cell? ⟨b,2,none⟩=some (.int .i64 n)
 f:∀ k,k < 3->w.frozen? ⟨b,k,none⟩=false
theorem qKx.a{b:Nat}{gv fv:Value}{n:Int}{w:World}(h:qKx b gv fv n w):w.cell? ⟨b,0,none⟩=some gv/\w.cell? ⟨b,1,none⟩=some fv/\w.cell? ⟨b,2,none⟩=some (.int .i64 n)/\True:=⟨h.c0,h.c1,h.c2,trivial⟩
theorem qKx.b{b:Nat}{gv fv:Value}{n:Int}{w:World}(h:qKx b gv fv n w):w.frozen? ⟨b,0,none⟩=false/\w.frozen? ⟨b,1,none⟩=false/\w.frozen? ⟨b,2,none⟩=false/\True:=⟨h.f 0 (by decide),h.f 1 (by decide),h.f 2 (by decide),trivial⟩
theorem qKx.turn{b:Nat}{gv fv:Value}{n:Int}{w w':World}(h:qKx b gv fv n w)(hb:w'.1[b]? = w.1[b]?):qKx b gv fv n w' :=
 have e:=fun {o:Nat} {u:Value} (e:w.cell? ⟨b,o,none⟩=some u)=>(cB (w:=w) (w':=w') (a:=⟨b,o,none⟩) hb).trans e
 ⟨e h.c0,e h.c1,e h.c2,fun j hj=>(World.frozen?_of_block hb).trans (h.f j hj)⟩
theorem qQE.turn{b:Nat}{x y z:Int}{w w':World}(h:qQE b x y z w)(hb:w'.1[b]? = w.1[b]?):qQE b x y z w' :=
 have e:=fun {o:Nat} {u:Value} (e:w.cell? ⟨b,o,none⟩=some u)=>(cB (w:=w) (w':=w') (a:=⟨b,o,none⟩) hb).trans e
 ⟨e h.c0,e h.c1,e h.c2,fun j hj=>(World.frozen?_of_block hb).trans (h.f j hj)⟩
theorem qQS(b c:Nat)(ln co code x y z:Int)(gv fv:Value)(n:Int)(w:World)(hb:qKx b gv fv n w)(hc:qQE c x y z w)(hne:¬b=c)(hg1:∃ q m k,gv=.slice q m k)(hf1:∃ q m k,fv=.slice q m k) :
 CallsD prog 63 #[.pointer (some ⟨b,0,none⟩), .pointer (some ⟨c,0,none⟩)] (.panicking [{ v:=xO ln co code,recovered:=false }]) w fun e u' w' =>
  e=.returned (.tuple #[])/\u'=.panicking [{ v:=xO ln co code,recovered:=true }]/\qKx b (.slice none 0 0) (.slice none 0 0) 0 w'/\qQE c ln co code w'/\∀ w0:World,Below w0.1.size w0 w->w0.1.size<=b->w0.1.size<=c->Below w0.1.size w0 w':=by
 unfold xO;obtain⟨gq,gm,gk,rfl⟩:=hg1;obtain⟨fq,fm,fk,rfl⟩:=hf1;refine callsD_of_wpS func63 rfl fun c₀ cs hu=>?_
 apply wpS_seq;apply wpS_region;simp[wpOpsS,go_sem,recoverD,hu,ntmps63,Exit.thenS];refine wpS_of_wp ?_;change Code.wp _ _ _ { tmps:=#[.pointer (some ⟨b,0,none⟩), .pointer (some ⟨c,0,none⟩), .iface 97 (.agg #[.int .i64 ln, .int .i64 co, .int .i64 code]), .iface 97 (.agg #[.int .i64 ln, .int .i64 co, .int .i64 code]),undef,undef,undef,undef,undef],defers:=[] } w;have⟨r0,r1,r2,_⟩:=hb.a;have⟨g0,g1,g2,_⟩:=hb.b;have⟨s0,s1,s2,_⟩:=hc.a;have⟨k0,k1,k2,_⟩:=hc.b;have hne':¬c=b:=fun e=>hne e.symm
 have hta:=qYG;go_wp2
 go_region
 refine⟨rfl, .panicking [{ v:=.iface 97 (.agg #[.int .i64 ln, .int .i64 co, .int .i64 code]),recovered:=true }],rfl, .tuple #[],by simp[results,results63],rfl,rfl,⟨?_,?_,?_,?_⟩,⟨?_,?_,?_,?_⟩,fun w0 h h1 h2=>?_⟩;case refine_4=>intro k hk;have:=hb.f k hk;simp[go_sem, *]
 case refine_8=>intro k hk;have:=hc.f k hk;simp[go_sem, *]
 case refine_9=>exact(jR (jR (jR (jR (jR (jR h h1 _) h1 _) h1 _) h2 _) h2 _) h2 _).drew
 all_goals simp[go_sem, *]
theorem qMt(t:qQ):qZb t=(yS t.kids ⟨[],[]⟩).bind fun S=>(vG S.gs S.fs t.kids S.fs).bind fun l=>(qVd S.fs).bind fun i=>.ok ⟨S.gs,l,i⟩:=by
 unfold qZb;congr 1
 funext S
 congr 1
 funext l
 unfold qVd;cases qQN qZf 0 S.fs with
 | none=>rfl
 | some p =>
  obtain⟨h,i⟩:=p;simp only;split <;> rfl
theorem qXc{α β:Type}{p:CR α}{f:α->CR β}{b:β}(h:p.bind f=.ok b):∃ a,p=.ok a/\f a=.ok b:=by
 cases p with
 | ok a=>exact⟨a,rfl,h⟩
 | bad x y z=>cases h
theorem qKH:∀ {ts:List qQ} {S S':HdS},yS ts S=.ok S'->S'.fs.length=S.fs.length+qXI ts
 | [],S,S',h=>by rw[yS]at h;injection h with h;subst h;simp[qXI]
 | t :: r,S,S',h=>by
  rw[yS]at h;cases hk:(t.kind == qC)with
  | true =>
   rw[hk]at h;simp only[if_true]at h;cases hp:wF S t with
   | bad a b c=>rw[hp]at h;cases h
   | ok S1 =>
    rw[hp]at h;have:=qKH (show yS r S1=.ok S' from h);have h1:S1.fs.length=S.fs.length+1:=by
     unfold wF at hp;obtain⟨_,_,hp⟩:=qXc hp;obtain⟨_,_,hp⟩:=qXc hp;obtain⟨_,_,hp⟩:=qXc hp;injection hp with hp;subst hp;simp
    have h2:qXI (t :: r)=qXI r+1:=by simp[qXI,List.filter_cons,hk]
    omega
  | false =>
   rw[hk]at h;simp only[bF,if_false]at h;cases hp:qZ9 S t with
   | bad a b c=>rw[hp]at h;cases h
   | ok S1 =>
    rw[hp]at h;have:=qKH (show yS r S1=.ok S' from h);have h1:S1.fs.length=S.fs.length:=by
     rw[qWW]at hp;obtain⟨_,_,hp⟩:=qXc hp;obtain⟨_,_,hp⟩:=qXc hp;obtain⟨_,_,hp⟩:=qXc hp;injection hp with hp;subst hp;rfl
    have h2:qXI (t :: r)=qXI r:=by simp[qXI,List.filter_cons,hk]
    omega
structure qYA(w:World):Prop where
 b0:w.cell? ⟨1,0,none⟩=some (.int .i64 1)
 b1:w.cell? ⟨1,1,none⟩=some (.bool false)
 d0:w.cell? ⟨2,0,none⟩=some (.int .i64 64)
 d1:w.cell? ⟨2,1,none⟩=some (.bool false)
 wt:qKi w
theorem qYA.below{w w':World}(h:qYA w)(hb:Below w.1.size w w'):qYA w' :=
 have k:∀ {p:Addr} {v:Value},w.cell? p=some v->w'.cell? p=some v:=fun e=>kP hb e
 ⟨k h.b0,k h.b1,k h.d0,k h.d1,h.wt.below hb⟩
def qZ2(lo:Nat)(p:PrD)(v:Value)(w:World):Prop :=
 ∃ (fs:List FnM) (bs:List (List Sx)) (gv fv:Value),v=.agg #[gv,fv, .int .i64 p.main]/\qQI w 0 p.globals gv/\w.ownsRow 0 40 6 fv fs.length (xD fnC fs)/\(∀ f∈fs,qQI w 0 f.vars f.vv)/\p.funcs=qXt fs bs/\bs.length=fs.length/\qJn w lo fs bs/\p.globals.length<=64/\fs.length<=16/\(∀ f∈fs,f.vars.length<=64)/\∃ i,p.main=(i:Nat)/\i < fs.length
def qKj(t:qQ)(v:Value)(w:World):World:=((w.alloc (qB t v)).alloc (.cells #[.slice none 0 0, .slice none 0 0, .int .i64 0] 30)).alloc (.cells #[.int .i64 0, .int .i64 0, .int .i64 0] 97)
def pgW(t:qQ)(v:Value)(w:World):World:=(((qKj t v w).alloc (.map #[] 0)).alloc (.map #[] 0)).alloc (.cells #[.slice none 0 0, .slice none 0 0, .int .i64 0, .map (some (w.1.size+1+1+1)), .map (some (w.1.size+1+1+1+1)), .int .i64 0, .map none, .pointer none, .map none] 121)
theorem qKx.new(w:World):qKx w.1.size (.slice none 0 0) (.slice none 0 0) 0 (w.alloc (.cells #[.slice none 0 0, .slice none 0 0, .int .i64 0] 30)):=by
 constructor
 case f=>intro k hk;match k,hk with | 0,_=>simp[go_sem] | 1,_=>simp[go_sem] | 2,_=>simp[go_sem]
 all_goals simp[go_sem]
theorem qQE.new(w:World):qQE w.1.size 0 0 0 (w.alloc (.cells #[.int .i64 0, .int .i64 0, .int .i64 0] 97)):=by
 constructor
 case f=>intro k hk;match k,hk with | 0,_=>simp[go_sem] | 1,_=>simp[go_sem] | 2,_=>simp[go_sem]
 all_goals simp[go_sem]
structure qUA(P Q Mg Mf B:Nat)(t:qQ)(v:Value)(w W:World):Prop where
 bl:Below w.1.size w W
 sz:W.1.size=w.1.size+6
 lo:P=w.1.size+1/\Q=w.1.size+2/\Mg=w.1.size+3/\Mf=w.1.size+4/\B=w.1.size+5
 nd:Bx w.1.size t v W
 pb:qKx P (.slice none 0 0) (.slice none 0 0) 0 W
 pk:jX W P 30
 lf:qQE Q 0 0 0 W
 lk:jX W Q 97
 mg:wY W Mg []
 mf:wY W Mf []
 cb:jX W B 121
 c0:W.cell? ⟨B,0,none⟩=some (.slice none 0 0)
 c1:W.cell? ⟨B,1,none⟩=some (.slice none 0 0)
 c2:W.cell? ⟨B,2,none⟩=some (.int .i64 0)
 c3:W.cell? ⟨B,3,none⟩=some (.map (some Mg))
 c4:W.cell? ⟨B,4,none⟩=some (.map (some Mf))
 c5:W.cell? ⟨B,5,none⟩=some (.int .i64 0)
 c6:W.cell? ⟨B,6,none⟩=some (.map none)
 c7:W.cell? ⟨B,7,none⟩=some (.pointer none)
 c8:W.cell? ⟨B,8,none⟩=some (.map none)
 f:∀ j,j < 9->W.frozen? ⟨B,j,none⟩=false
theorem qUA.a{P Q Mg Mf B:Nat}{t:qQ}{v:Value}{w W:World}(h:qUA P Q Mg Mf B t v w W):W.cell? ⟨B,0,none⟩=some (.slice none 0 0)/\W.cell? ⟨B,1,none⟩=some (.slice none 0 0)/\W.cell? ⟨B,2,none⟩=some (.int .i64 0)/\W.cell? ⟨B,3,none⟩=some (.map (some Mg))/\W.cell? ⟨B,4,none⟩=some (.map (some Mf))/\W.cell? ⟨B,5,none⟩=some (.int .i64 0)/\W.cell? ⟨B,6,none⟩=some (.map none)/\W.cell? ⟨B,7,none⟩=some (.pointer none)/\W.cell? ⟨B,8,none⟩=some (.map none)/\True:=⟨h.c0,h.c1,h.c2,h.c3,h.c4,h.c5,h.c6,h.c7,h.c8,trivial⟩
theorem qUA.b{P Q Mg Mf B:Nat}{t:qQ}{v:Value}{w W:World}(h:qUA P Q Mg Mf B t v w W):W.frozen? ⟨B,0,none⟩=false/\W.frozen? ⟨B,1,none⟩=false/\W.frozen? ⟨B,2,none⟩=false/\W.frozen? ⟨B,3,none⟩=false/\W.frozen? ⟨B,4,none⟩=false/\W.frozen? ⟨B,5,none⟩=false/\W.frozen? ⟨B,6,none⟩=false/\W.frozen? ⟨B,7,none⟩=false/\W.frozen? ⟨B,8,none⟩=false/\True:=⟨h.f 0 (by decide),h.f 1 (by decide),h.f 2 (by decide),h.f 3 (by decide),h.f 4 (by decide),h.f 5 (by decide),h.f 6 (by decide),h.f 7 (by decide),h.f 8 (by decide),trivial⟩
theorem qUA.new(t:qQ)(v:Value)(w:World):qUA (w.1.size+1) (w.1.size+1+1) (w.1.size+1+1+1) (w.1.size+1+1+1+1) (w.1.size+1+1+1+1+1) t v w (pgW t v w):=by
 have s0:(w.alloc (qB t v)).1.size=w.1.size+1:=by simp
 have s1:((w.alloc (qB t v)).alloc (.cells #[.slice none 0 0, .slice none 0 0, .int .i64 0] 30)).1.size=w.1.size+2:=by simp
 have s2:(qKj t v w).1.size=w.1.size+3:=by simp[qKj]
 have s3:((qKj t v w).alloc (.map #[] 0)).1.size=w.1.size+4:=by simp[s2]
 have s4:(((qKj t v w).alloc (.map #[] 0)).alloc (.map #[] 0)).1.size=w.1.size+5:=by simp[s2]
 have b5:Below (w.1.size+5) (((qKj t v w).alloc (.map #[] 0)).alloc (.map #[] 0)) (pgW t v w):=by
  have:=bal (Below.refl (((qKj t v w).alloc (.map #[] 0)).alloc (.map #[] 0)).1.size _) (.cells #[.slice none 0 0, .slice none 0 0, .int .i64 0, .map (some (w.1.size+1+1+1)), .map (some (w.1.size+1+1+1+1)), .int .i64 0, .map none, .pointer none, .map none] 121);rw[s4]at this;exact this
 have b4:Below (w.1.size+4) ((qKj t v w).alloc (.map #[] 0)) (pgW t v w):=by
  have:=bal (Below.refl ((qKj t v w).alloc (.map #[] 0)).1.size _) (.map #[] 0);rw[s3]at this;exact this.trans (b5.mono (by omega))
 have b3:Below (w.1.size+3) (qKj t v w) (pgW t v w):=by
  have:=bal (Below.refl (qKj t v w).1.size _) (.map #[] 0);rw[s2]at this;exact this.trans (b4.mono (by omega))
 have b2:Below (w.1.size+2) ((w.alloc (qB t v)).alloc (.cells #[.slice none 0 0, .slice none 0 0, .int .i64 0] 30)) (pgW t v w):=by
  have:=bal (Below.refl ((w.alloc (qB t v)).alloc (.cells #[.slice none 0 0, .slice none 0 0, .int .i64 0] 30)).1.size _) (.cells #[.int .i64 0, .int .i64 0, .int .i64 0] 97);rw[s1]at this;exact this.trans (b3.mono (by omega))
 have b1:Below (w.1.size+1) (w.alloc (qB t v)) (pgW t v w):=by
  have:=bal (Below.refl (w.alloc (qB t v)).1.size _) (.cells #[.slice none 0 0, .slice none 0 0, .int .i64 0] 30);rw[s0]at this;exact this.trans (b2.mono (by omega))
 have p1:=qKx.new (w.alloc (qB t v));have l1:=qQE.new ((w.alloc (qB t v)).alloc (.cells #[.slice none 0 0, .slice none 0 0, .int .i64 0] 30));have k1:=jX.new (w.alloc (qB t v)) #[.slice none 0 0, .slice none 0 0, .int .i64 0] 30;have k2:=jX.new ((w.alloc (qB t v)).alloc (.cells #[.slice none 0 0, .slice none 0 0, .int .i64 0] 30)) #[.int .i64 0, .int .i64 0, .int .i64 0] 97;have m3:=wY.made (qKj t v w);have m4:=wY.made ((qKj t v w).alloc (.map #[] 0));have k5:=jX.new (((qKj t v w).alloc (.map #[] 0)).alloc (.map #[] 0)) #[.slice none 0 0, .slice none 0 0, .int .i64 0, .map (some (w.1.size+1+1+1)), .map (some (w.1.size+1+1+1+1)), .int .i64 0, .map none, .pointer none, .map none] 121;have h5:=hp_new (((qKj t v w).alloc (.map #[] 0)).alloc (.map #[] 0)) (.cells #[.slice none 0 0, .slice none 0 0, .int .i64 0, .map (some (w.1.size+1+1+1)), .map (some (w.1.size+1+1+1+1)), .int .i64 0, .map none, .pointer none, .map none] 121);rw[s0]at p1 k1;rw[s1]at l1 k2;rw[s2]at m3;rw[s3]at m4;rw[s4]at k5 h5;have hb5:(pgW t v w).1[w.1.size+5]? = some (.cells #[.slice none 0 0, .slice none 0 0, .int .i64 0, .map (some (w.1.size+1+1+1)), .map (some (w.1.size+1+1+1+1)), .int .i64 0, .map none, .pointer none, .map none] 121):=h5;refine⟨(bal (Below.refl _ _) _).trans (b1.mono (by omega)),by unfold pgW;rw[World.size_alloc,s4],⟨rfl,rfl,rfl,rfl,rfl⟩,(b1.block _ (by omega)).trans (Bx.new t v w),p1.turn (b2.block _ (by omega)),k1.turn (b2.block _ (by omega)),l1.turn (b3.block _ (by omega)),k2.turn (b3.block _ (by omega)),m3.kept (b4.block _ (by omega)),m4.kept (b5.block _ (by omega)),k5,?_,?_,?_,?_,?_,?_,?_,?_,?_,fun j hj=>?_⟩;all_goals first | (simp only[World.cell?,hb5];rfl) | simp[World.frozen?,hb5]
def qZX:Value:=.agg #[.slice none 0 0, .slice none 0 0, .int .i64 0]
def qZZ(p:CR PrD)(w:World)(e:Ending)(w':World):Prop :=
 match p with
 | .ok r=>∃ v,e=.returned (.tuple #[v, .agg #[.int .i64 0, .int .i64 0, .int .i64 0]])/\qZ2 w.1.size r v w'/\Below w.1.size w w'
 | .bad ln co code=>e=.returned (.tuple #[qZX, .agg #[.int .i64 ln, .int .i64 co, .int .i64 code]])/\Below w.1.size w w'
theorem qZZ.okI{p:CR PrD}{r:PrD}{w w':World}{v:Value}(hp:p=.ok r)(h:qZ2 w.1.size r v w')(hb:Below w.1.size w w'):qZZ p w (.returned (.tuple #[v, .agg #[.int .i64 0, .int .i64 0, .int .i64 0]])) w':=by
 rw[hp];exact⟨v,rfl,h,hb⟩
theorem qZZ.badI{p:CR PrD}{w w':World}{ln co code:Int}(hp:p=.bad ln co code)(hb:Below w.1.size w w'):qZZ p w (.returned (.tuple #[qZX, .agg #[.int .i64 ln, .int .i64 co, .int .i64 code]])) w':=by
 rw[hp];exact⟨rfl,hb⟩
def PgOk(t:qQ):Prop:=t.kids.length<=1000000/\(∀ a∈t.kids,HdOk a)/\∀ a∈t.kids,(a.kind == qC)=true->a.kids≠[]/\a.kids.length<=1000000/\qUz (yE a)
def BnRel(L:Nat)(ts:List qQ)(W:World)(nx i:Value)(wr:World):Prop:=∃ k:Nat,k<=ts.length/\i=.int .i64 k/\nx=.int .i64 0/\Below W.1.size W wr
theorem qPj(B L:Nat)(ts:List qQ)(q:Option Addr)(c:Nat)(W:World)(hL:L<=W.1.size)(hK:yD L W ts q)(hlen:ts.length<=1000000)(hn:∀ t∈ts,(t.kind == qC)=false) :
 Calls prog 66 #[.pointer (some ⟨B,0,none⟩), .slice q ts.length c] W fun e w'=>e=.returned (.tuple #[])/\Below W.1.size W w':=by
 have HK:=hI hK;have HN:=hI hn;clear hK hn;go_enter func66,ntmps66
 go_wp2
 go_loopw [4,9] (fun nx i wr=>BnRel L ts W nx i wr) (fun _ i _=>ts.length - (intOf i).toNat)
 case atStart=>exact⟨0,Nat.zero_le _,rfl,rfl,Below.refl _ _⟩
 case round =>
  obtain⟨k,hk,rfl,rfl,hb⟩:=hrel;have HB:=hI hb;have hbs:=hb.size;clear hb;by_cases hlt:k < ts.length
  ·obtain⟨g,off,rfl,hRN⟩:=(HK.o.keep (HB.o.mono hL)).resolve_left (fun e=>by rw[e]at hlt;simp at hlt);obtain⟨qa,na,ca,hla,hca⟩:=hRN.2 k hlt;have⟨k0,k1,k2,k3,k4,k5,_⟩:=hca.a;have hkf:=HN.o ts[k] (List.getElem_mem hlt);have HBA:=hI (bal (Below.refl wr.1.size wr) (qB ts[k] (.slice qa na ca)));have hkl:(k:Int) < (ts.length:Nat):=by omega
   clear hca hla hRN;generalize ts[k]=u at *;obtain⟨uk,ux,um,ul,uc,uks⟩:=u;simp only[qS,qZ,qB,qQ.kind,qQ.text,qQ.num,qQ.line,qQ.col,qQ.kids]at *;unfold qC at hkf;go_wp2
   refine⟨⟨k+1,by omega,rfl,rfl,HB.o.trans (HBA.o.mono hbs)⟩,?_⟩;simp only[intOf];omega
  ·have hkl:(ts.length:Int)<=(k:Nat):=by omega
   go_wp2
   go_end0;exact⟨rfl,HB.o⟩
theorem start_none(B Mf:Nat)(w:World)(c4:w.cell? ⟨B,4,none⟩=some (.map (some Mf)))(fm:wY w Mf []) :
 Calls prog 67 #[.pointer (some ⟨B,0,none⟩)] w (qXP B (.bad 0 0 44) w):=by
 have HNA:=hI (fun b w'=>qQk b (.mk [] [] 0 0 0 []) (.slice none 0 0) 44 w');simp only[qZ,qQ.kind,qQ.text,qQ.num,qQ.line,qQ.col,qQ.kids]at HNA;have hlk:=fm.look qZf (by unfold qZf maxLen;simp);rw[show qVi qZf []=0 from rfl,show qVh qZf []=false from rfl]at hlk;unfold qZf at hlk;clear fm;go_enter func67,ntmps67
 go_wp2_with fail
 refine(HNA.o _ _).mono ?_;rintro e w4 (⟨hbt,rfl,hb4⟩ | ⟨hbt,rfl,hb4⟩)
 ·cases hbt
 ·exact⟨rfl,qXP.badI rfl hb4⟩
theorem qVX(gs:List qI)(H:List kI):∀ ts:List qQ,vG gs H ts []=.ok []
 | []=>by rw[vG]
 | t :: r=>by
  rw[vG];split
  ·rfl
  ·exact qVX gs H r
theorem qZ2.of{B L:Nat}{gs:List qI}{fs:List FnM}{FC Mf:Nat}{gv:Value}{Mg Mr F:Nat}{cl:vE}{w w':World}{bs:List (List Sx)}{lo lo' P Q i:Nat}(h:BIn B L gs fs FC Mf gv Mg Mr F cl w)(hl:qJn w lo fs bs)(hb:bs.length=fs.length)(hi:i < fs.length)(kPq:jX w P 30)(kQ:jX w Q 97)(hlo:B < lo/\P < lo/\Q < lo/\lo'<=lo)
 (st:∀ k,k < w.1.size->k≠B->k≠P->k≠Q->w'.1[k]? = w.1[k]?):qZ2 lo' ⟨gs,qXt fs bs,i⟩ (.agg #[gv, .slice (some ⟨F,0,none⟩) fs.length FC, .int .i64 i]) w':=by
 have sK:∀ {b S},jX w b S->S≠121->S≠30->S≠97->w'.1[b]? = w.1[b]?:=fun k h1 h2 h3=>st _ k.lt (k.ne h.kb h1) (k.ne kPq h2) (k.ne kQ h3)
 refine⟨fs,bs,gv,_,rfl,zU h.grow (fun g hg=>sK (zE h.grow hg) (by decide) (by decide) (by decide)),zU h.frow (fun g hg=>sK (zE h.frow hg) (by decide) (by decide) (by decide)),fun f hf=>zU (h.vrow f hf) (fun g hg=>sK (zE (h.vrow f hf) hg) (by decide) (by decide) (by decide)),rfl,hb,fun j hj=>jE.move (hl j hj) (fun g hg hok=>⟨⟨by omega,hok.2⟩,?_⟩),h.gl,h.fl,h.vl,i,rfl,hi⟩;exact st g hg (by omega) (by omega) (by omega)
theorem mainC_ok{H:List kI}{i:Int}(h:qVd H=.ok i):∃ n:Nat,i=n/\n < H.length:=by
 unfold qVd at h;cases hl:qQN qZf 0 H with
 | none=>rw[hl]at h;cases h
 | some p =>
  obtain⟨h1,h2⟩:=p;rw[hl]at h;simp only at h;split at h
  ·injection h with h;obtain⟨_,_,hi,_⟩:=qJK hl;exact⟨h2,h.symm,hi⟩
  ·cases h
theorem qUA.hin{P Q Mg Mf B Mr:Nat}{t:qQ}{v:Value}{w W W1:World}{cl:vE}(h:qUA P Q Mg Mf B t v w W)(hc:qYA w)(hb:Below W.1.size W W1)(hcc:W1.cell? ⟨cl.c,0,none⟩=some (.pointer (some ⟨B,0,none⟩)))(hce:W1.cell? ⟨cl.eq,0,none⟩=some (.func (.func 81) #[] #[.pointer (some ⟨cl.c,0,none⟩)]))
 (hrm:qJs W1 Mr cl) (hkc:jX W1 cl.c 135) (hke:jX W1 cl.eq 136) (hMr:W.1.size<=Mr):HIn B Mg [] [] (.slice none 0 0) (.slice none 0 0) Mg Mf Mr cl (yV []) (W1.setCell ⟨B,6,none⟩ (.map (some Mr))):=by
 have hlo:=h.lo;have hsz:=h.sz;have hBW:Below w.1.size w (W1.setCell ⟨B,6,none⟩ (.map (some Mr))):=jR (h.bl.trans (hb.mono (by omega))) (by omega) _;have hC:=hc.below hBW;have st:∀ b,b≠B->(W1.setCell ⟨B,6,none⟩ (.map (some Mr))).1[b]? = W1.1[b]?:=fun b hb=>hS _ _ _ _ hb
 have kB:jX W1 B 121:=h.cb.turn (hb.block _ h.cb.lt);have k:∀ {o:Nat} {u:Value},o≠6->W.cell? ⟨B,o,none⟩=some u->(W1.setCell ⟨B,6,none⟩ (.map (some Mr))).cell? ⟨B,o,none⟩=some u:=fun {o u} ho e =>
  (World.cell?_setCell_other _ _ _ _ (by simpa using Ne.symm ho)).trans ((hb.cell (p:=⟨B,o,none⟩) (qJ e)).trans e)
 have kc:∀ {b o:Nat} {u:Value},b≠B->W1.cell? ⟨b,o,none⟩=some u->(W1.setCell ⟨B,6,none⟩ (.map (some Mr))).cell? ⟨b,o,none⟩=some u:=fun hne e=>(cB (st _ hne)).trans e
 have c6:=(hb.cell (p:=⟨B,6,none⟩) (qJ h.c6)).trans h.c6;have h4:4 < w.1.size:=by obtain⟨b,off,cap,hwt⟩:=hc.wt;exact qJ hwt.tg
 refine⟨k (by decide) h.c0,k (by decide) h.c1,⟨_,k (by decide) h.c2⟩,k (by decide) h.c3,k (by decide) h.c4,k (by decide) h.c5,World.cell?_setCell_same _ _ _ c6,⟨_,k (by decide) h.c7⟩,⟨_,k (by decide) h.c8⟩,fun j hj=>?_,⟨rfl, .inl ⟨rfl,rfl⟩⟩,⟨rfl, .inl ⟨rfl,rfl⟩⟩,fun f hf=>by simp at hf,?_,?_,?_,kc (hkc.ne kB (by decide)) hcc,kc (hke.ne kB (by decide)) hce,hC.b0,hC.b1,hC.d0,hC.d1,by decide,by decide,fun f hf=>by simp at hf,kB.set _ _ _,hkc.set _ _ _,hke.set _ _ _,⟨by omega,by omega,by omega⟩,⟨by omega,by omega,by omega,by omega⟩,fun j hj=>by simp at hj,?_⟩
 ·exact(World.frozen?_setCell _ _ _ _).trans ((hb.frozen (p:=⟨B,j,none⟩) h.cb.lt).trans (h.f j hj))
 ·exact(h.mg.below hb).kept (st _ (by omega))
 ·exact(h.mf.below hb).kept (st _ (by omega))
 ·exact hrm.kept (st _ (by omega))
 ·obtain⟨b,off,cap,hwt⟩:=hc.wt;exact⟨b,off,cap,hwt.below hBW,by have:b < w.1.size:=qJ (hwt.tn 0 (by omega));omega⟩
theorem qUH(t:qQ)(v:Value)(w:World)(hc:qYA w)(hl:xZ w (· < w.1.size) t v)(ho:PgOk t):Calls prog 45 #[qZ t v] w (qZZ (qZb t) w):=by
 obtain⟨q,c,rfl,hc1,hc2,hK⟩:=hl.kids;have HI:=hI (qUA.new t (.slice q t.kids.length c) w);have HC:=hI hc;have HLI:=hI hl;have HK:=hI hK;have HOK:=hI ho;have h4:4 < w.1.size:=by obtain⟨b,off,cap,hwt⟩:=hc.wt;exact qJ hwt.tg
 have HPB0:=hI (qMt t);have hmf:=zT;have hmm:=@run_makeMap prog;clear hl hK ho hc;obtain⟨k,x,m,ln,co,ks⟩:=t;unfold pgW qKj at HI;simp only[qZ,qB,qS,qQ.kind,qQ.text,qQ.num,qQ.line,qQ.col,qQ.kids]at *;go_enter_defers func45,ntmps45
 go_wp2_with fail
 clear hmf hmm;generalize ((((((w.alloc _).alloc _).alloc _).alloc _).alloc _).alloc _)=W5 at *;generalize w.1.size+1+1+1+1+1=B at *;generalize w.1.size+1+1+1+1=Mf at *;generalize w.1.size+1+1+1=Mg at *;generalize w.1.size+1+1=Q at *;generalize w.1.size+1=P at *;have hlo:w.1.size < P/\P < Q/\Q < Mg/\Mg < Mf/\Mf < B/\B < W5.1.size/\4 < Mg:=by have h1:=HI.o.lo;have h2:=HI.o.sz;omega
 have hs0:=HI.o.bl.size;refine(qYJ _ _).mono ?_;rintro e W1 ⟨cl,Mr,rfl,hb1,hcc,hce,hrm,hkc,hke,hMr⟩;have hH:=HI.o.hin HC.o hb1 hcc hce hrm hkc hke hMr;have HH:=hI hH;have hs1:=hb1.size;have c6:=(hb1.cell (p:=⟨B,6,none⟩) (qJ HI.o.c6)).trans HI.o.c6;have f6:=(hb1.frozen (p:=⟨B,6,none⟩) HI.o.cb.lt).trans (HI.o.f 6 nL);have hsB:∀ b,b≠B->(W1.setCell ⟨B,6,none⟩ (.map (some Mr))).1[b]? = W1.1[b]?:=fun b hb=>hS _ _ _ _ hb
 have hblk:∀ b,b < W5.1.size->b≠B->(W1.setCell ⟨B,6,none⟩ (.map (some Mr))).1[b]? = W5.1[b]?:=fun b hb hne=>(hsB b hne).trans (hb1.block b hb)
 have HPB:=hI (HI.o.pb.turn (hblk P (by omega) (by omega)));have HPK:=hI (HI.o.pk.turn (hblk P (by omega) (by omega)));have HLF:=hI (HI.o.lf.turn (hblk Q (by omega) (by omega)));have HLK:=hI (HI.o.lk.turn (hblk Q (by omega) (by omega)));have HND:=hI (show Bx w.1.size (.mk k x m ln co ks) (.slice q ks.length c) _ from(hblk w.1.size (by omega) (by omega)).trans HI.o.nd);have HBW:=hI (show Below w.1.size w (W1.setCell ⟨B,6,none⟩ (.map (some Mr)))from jR (HI.o.bl.trans (hb1.mono (by omega))) (by omega) _);have HLI2:=hI (show xZ (W1.setCell ⟨B,6,none⟩ (.map (some Mr))) (· < Mg) (.mk k x m ln co ks) (.slice q ks.length c)from xZ.move (fun g hg hok=>⟨by omega,HBW.o.block g hok⟩) _ _ HLI.o);have hn5:=HND.o.cells.2.2.2.2.2;have n5:W1.cell? ⟨w.1.size,5,none⟩=some (.slice q ks.length c):=(cB (hsB w.1.size (by omega)).symm).trans hn5;have hBn:¬B=w.1.size:=by omega
 have hnB:¬w.1.size=B:=by omega
 have hs2:(W1.setCell ⟨B,6,none⟩ (.map (some Mr))).1.size=W1.1.size:=by simp
 obtain⟨qk,ck,e,_,_,hKK⟩:=HLI2.o.kids;injection e with e1 e2 e3;have HKK:=hI hKK;rw[<-e1]at HKK;clear hH hb1 hcc hce hrm hkc hke hn5 hKK e1 e2 e3 hsB hblk;go_wp2_with fail
 clear c6 f6 n5;generalize (W1.setCell ⟨B,6,none⟩ (.map (some Mr)))=W2 at *;have HHD:=hI (heads_any B Mg [] [] (.slice none 0 0) (.slice none 0 0) Mg Mf Mr cl ks q c W2 HH.o (by omega) HKK.o HOK.o.1 HOK.o.2.1);refine(HHD.o).mono ?_;rintro e W' hX;rcases hX.cases with⟨gs,fs,gv,fv,hp,rfl,hH3,hT3⟩ | ⟨l,c9,code,hp,rfl,hT3⟩;rotate_left
 ·skip
  have hT:jW Mg W2 W':=hT3;have hP:=HPB.o.turn (hT.block P (by omega) (by omega));have hQ:=HLF.o.turn (hT.block Q (by omega) (by omega));have hbad:=(HPB0.o.trans (by rw[show yS ks ⟨[],[]⟩=_ from hp];rfl):qZb (.mk k x m ln co ks)=.bad l c9 code);have hWW:Below w.1.size w W':=(jW.below (L:=w.1.size) ((jW.of_below HBW.o).trans ⟨hT.os,hT.tape,hT.output,hT.size,fun b hb hL=>hT.block b hb (by omega)⟩) (Nat.le_refl _));refine leaves_cons (f:=63) (args:=#[.pointer (some ⟨P,0,none⟩), .pointer (some ⟨Q,0,none⟩)]) (by simp) (by simp[go_sem]) ?_;refine(qQS P Q l c9 code 0 0 0 (.slice none 0 0) (.slice none 0 0) 0 W' hP hQ (by omega) ⟨_,_,_,rfl⟩ ⟨_,_,_,rfl⟩).mono ?_;rintro e u' w9 ⟨rfl,rfl,hP9,hQ9,hB9⟩;have⟨p0,p1,p2,_⟩:=hP9.a;have⟨q0,q1,q2,_⟩:=hQ9.a;show Leaves _ _ _ _ [] FrameMode.returning w9
  refine⟨.tuple #[qZX, .agg #[.int .i64 l, .int .i64 c9, .int .i64 code]],by simp[results,results45,go_sem,qZX, *],?_⟩;exact qZZ.badI hbad (hB9 w hWW (by omega) (by omega))
 have HPB1:=hI (HPB0.o.trans (by rw[show yS ks ⟨[],[]⟩=_ from hp];rfl:_=(vG gs (fs.map (fun f=>f.h)) ks (fs.map (fun f=>f.h))).bind fun l=>(qVd (fs.map (fun f=>f.h))).bind fun i=>.ok ⟨gs,l,i⟩));have HH3:=hI hH3;have HT3:=hI hT3;have hcnt:=qKH (show yS ks ⟨[],[]⟩=.ok ⟨gs,fs.map (fun f=>f.h)⟩from hp);simp only[List.length_map,lZ,Nat.zero_add]at hcnt;have hs3:=hT3.size;have HND3:=hI (show Bx w.1.size (.mk k x m ln co ks) (.slice q ks.length c) W' from(hT3.block w.1.size (by omega) (by omega)).trans HND.o);have n5:=HND3.o.cells.2.2.2.2.2;try simp only[qQ.kids]at n5
 have HKK3:=hI (HKK.o.low (w:=W2) (w':=W') (by omega) hT3.block);clear hX hp hH3 hT3 HHD HH;go_wp2_with fail
 clear n5;rcases HH3.o.frow.2 with⟨hfv,hf0⟩ | ⟨F,FC,cur,hfv,_⟩
 ·have hfs:fs=[]:=List.length_eq_zero_iff.1 hf0;subst hfs;have hno:∀ t∈ks,(t.kind == qC)=false:=by
   intro t ht;cases hk:(t.kind == qC)with
   | false=>rfl
   | true =>
    exfalso;have:0 < qXI ks:=by unfold qXI;exact List.length_pos_iff.2 (List.ne_nil_of_mem (List.mem_filter.2 ⟨ht,hk⟩))
    simp only[lZ]at hcnt;omega
  refine(qPj B Mg ks q c W' (by omega) HKK3.o HOK.o.1 hno).mono ?_;rintro e W6 ⟨rfl,hb6⟩;have HT6:=hI (HT3.o.trans (jW.of_below (L:=Mg) hb6));have c4:=(hb6.cell (p:=⟨B,4,none⟩) (qJ HH3.o.c4)).trans HH3.o.c4;have hfm:=HH3.o.fm.below hb6;clear hb6;go_wp2_with fail
  refine(start_none B Mf W6 c4 hfm).mono ?_;rintro e W' ⟨rfl,hb7⟩;have hT:jW Mg W2 W':=HT6.o.trans (jW.of_below hb7);have hP:=HPB.o.turn (hT.block P (by omega) (by omega));have hQ:=HLF.o.turn (hT.block Q (by omega) (by omega));have hbad:=(HPB1.o.trans (by simp only[List.map_nil];rw[qVX];rfl):qZb (.mk k x m ln co ks)=.bad 0 0 44);have hWW:Below w.1.size w W':=(jW.below (L:=w.1.size) ((jW.of_below HBW.o).trans ⟨hT.os,hT.tape,hT.output,hT.size,fun b hb hL=>hT.block b hb (by omega)⟩) (Nat.le_refl _));refine leaves_cons (f:=63) (args:=#[.pointer (some ⟨P,0,none⟩), .pointer (some ⟨Q,0,none⟩)]) (by simp) (by simp[go_sem]) ?_;refine(qQS P Q 0 0 44 0 0 0 (.slice none 0 0) (.slice none 0 0) 0 W' hP hQ (by omega) ⟨_,_,_,rfl⟩ ⟨_,_,_,rfl⟩).mono ?_;rintro e u' w9 ⟨rfl,rfl,hP9,hQ9,hB9⟩;have⟨p0,p1,p2,_⟩:=hP9.a;have⟨q0,q1,q2,_⟩:=hQ9.a;show Leaves _ _ _ _ [] FrameMode.returning w9
  refine⟨.tuple #[qZX, .agg #[.int .i64 0, .int .i64 0, .int .i64 44]],by simp[results,results45,go_sem,qZX, *],?_⟩;exact qZZ.badI hbad (hB9 w hWW (by omega) (by omega))
 ·subst hfv;have hBI:=HH3.o;obtain⟨gq,gc,hgv⟩:=qZL HH3.o.grow;subst hgv;have hBin:=HIn.bin (F:=F) (FC:=FC) HH3.o;refine(qLU B Mg gs fs FC Mf (.slice gq gs.length gc) Mg Mr F cl ks q c W' hBin (by omega) HKK3.o HOK.o.1 hcnt.symm (fun f hf=>⟨(HH3.o.par f hf).1,(HH3.o.par f hf).2.1⟩) HOK.o.2.2).mono ?_;have hs9:=HT3.o.size;rintro e W6 hX;cases hq:vG gs (fs.map (fun f=>f.h)) ks (fs.map (fun f=>f.h))with
  | bad l c9 code =>
   rw[hq]at hX;obtain⟨rfl,hT6⟩:=hX;have hT:jW Mg W2 W6:=HT3.o.trans hT6;have hP:=HPB.o.turn (hT.block P (by omega) (by omega));have hQ:=HLF.o.turn (hT.block Q (by omega) (by omega));have hbad:=(HPB1.o.trans (by rw[hq];rfl):qZb (.mk k x m ln co ks)=.bad l c9 code);have hWW:Below w.1.size w W6:=(jW.below (L:=w.1.size) ((jW.of_below HBW.o).trans ⟨hT.os,hT.tape,hT.output,hT.size,fun b hb hL=>hT.block b hb (by omega)⟩) (Nat.le_refl _));refine leaves_cons (f:=63) (args:=#[.pointer (some ⟨P,0,none⟩), .pointer (some ⟨Q,0,none⟩)]) (by simp) (by simp[go_sem]) ?_;refine(qQS P Q l c9 code 0 0 0 (.slice none 0 0) (.slice none 0 0) 0 W6 hP hQ (by omega) ⟨_,_,_,rfl⟩ ⟨_,_,_,rfl⟩).mono ?_;rintro e u' w9 ⟨rfl,rfl,hP9,hQ9,hB9⟩;have⟨p0,p1,p2,_⟩:=hP9.a;have⟨q0,q1,q2,_⟩:=hQ9.a;show Leaves _ _ _ _ [] FrameMode.returning w9
   refine⟨.tuple #[qZX, .agg #[.int .i64 l, .int .i64 c9, .int .i64 code]],by simp[results,results45,go_sem,qZX, *],?_⟩;exact qZZ.badI hbad (hB9 w hWW (by omega) (by omega))
  | ok l =>
   rw[hq]at hX;obtain⟨fs2,bs,rfl,hl2,hbl,hfl,hfh,hB6,hLF6,hT6⟩:=hX;have HPB2:=hI (HPB1.o.trans (by rw[hq,hl2,<-hfh];rfl:_=(qVd (fs2.map (fun f=>f.h))).bind fun i=>.ok ⟨gs,qXt fs2 bs,i⟩));have HB6:=hI hB6;have HLF6:=hI hLF6;have HT6:=hI (HT3.o.trans hT6);have HBL6:=hI hbl;have hs6:=hT6.size;clear hq hl2 hbl hfl hfh hB6 hLF6 hT6 HPB1 HPB0;go_wp2_with fail
   refine(start_any B Mg gs fs2 FC Mf (.slice gq gs.length gc) Mg Mr F cl W6 HB6.o).mono ?_;rintro e W7 hX;cases hm:qVd (fs2.map (fun f=>f.h))with
   | bad l c9 code =>
    rw[hm]at hX;obtain⟨rfl,hb7⟩:=hX;have hT:jW Mg W2 W7:=HT6.o.trans (jW.of_below hb7);have hP:=HPB.o.turn (hT.block P (by omega) (by omega));have hQ:=HLF.o.turn (hT.block Q (by omega) (by omega));have hbad:=(HPB2.o.trans (by rw[hm];rfl):qZb (.mk k x m ln co ks)=.bad l c9 code);have hWW:Below w.1.size w W7:=(jW.below (L:=w.1.size) ((jW.of_below HBW.o).trans ⟨hT.os,hT.tape,hT.output,hT.size,fun b hb hL=>hT.block b hb (by omega)⟩) (Nat.le_refl _));refine leaves_cons (f:=63) (args:=#[.pointer (some ⟨P,0,none⟩), .pointer (some ⟨Q,0,none⟩)]) (by simp) (by simp[go_sem]) ?_;refine(qQS P Q l c9 code 0 0 0 (.slice none 0 0) (.slice none 0 0) 0 W7 hP hQ (by omega) ⟨_,_,_,rfl⟩ ⟨_,_,_,rfl⟩).mono ?_;rintro e u' w9 ⟨rfl,rfl,hP9,hQ9,hB9⟩;have⟨p0,p1,p2,_⟩:=hP9.a;have⟨q0,q1,q2,_⟩:=hQ9.a;show Leaves _ _ _ _ [] FrameMode.returning w9
    refine⟨.tuple #[qZX, .agg #[.int .i64 l, .int .i64 c9, .int .i64 code]],by simp[results,results45,go_sem,qZX, *],?_⟩;exact qZZ.badI hbad (hB9 w hWW (by omega) (by omega))
   | ok i =>
    rw[hm]at hX;obtain⟨rfl,w4,hb7,rfl⟩:=hX;obtain⟨n,rfl,hn⟩:=mainC_ok hm;rw[List.length_map]at hn;have HRES:=hI (HPB2.o.trans (by rw[hm];rfl:_=.ok ⟨gs,qXt fs2 bs,(n:Int)⟩));have HB7:=hI hb7;have hs7:=hb7.size;have hBn:B < W6.1.size:=qJ HB6.o.c0;have hT7:jW Mg W2 (w4.setCell ⟨B,2,none⟩ (.int .i64 (n:Int))):=(HT6.o.trans (jW.of_below hb7)).set (by omega) _ _;have hP:=HPB.o.turn (hT7.block P (by omega) (by omega));have hQ:=HLF.o.turn (hT7.block Q (by omega) (by omega));have HKP:=hI (HPK.o.turn (HT6.o.block P (by omega) (by omega)));have HKQ:=hI (HLK.o.turn (HT6.o.block Q (by omega) (by omega)));have HT7:=hI hT7;obtain⟨u2,hu2⟩:=HB6.o.c2;have c0:(w4.setCell ⟨B,2,none⟩ (.int .i64 (n:Int))).cell? ⟨B,0,none⟩=some (.slice gq gs.length gc):=(World.cell?_setCell_other _ _ _ _ (by simp)).trans (kP hb7 HB6.o.c0);have c1:(w4.setCell ⟨B,2,none⟩ (.int .i64 (n:Int))).cell? ⟨B,1,none⟩=some (.slice (some ⟨F,0,none⟩) fs2.length FC):=(World.cell?_setCell_other _ _ _ _ (by simp)).trans (kP hb7 HB6.o.c1);have c2:(w4.setCell ⟨B,2,none⟩ (.int .i64 (n:Int))).cell? ⟨B,2,none⟩=some (.int .i64 (n:Int)):=World.cell?_setCell_same _ _ _ (kP hb7 hu2);have hxB:∀ b,b < W6.1.size->b≠B->(w4.setCell ⟨B,2,none⟩ (.int .i64 (n:Int))).1[b]? = W6.1[b]?:=fun b hb hne=>(hS _ _ _ _ hne).trans (hb7.block b hb)
    have HXB:=hI hxB;have hs8:(w4.setCell ⟨B,2,none⟩ (.int .i64 (n:Int))).1.size=w4.1.size:=by simp
    have⟨p0,p1,p2,_⟩:=hP.a;have⟨pf0,pf1,pf2,_⟩:=hP.b;have⟨q0,q1,q2,_⟩:=hQ.a;have⟨qf0,qf1,qf2,_⟩:=hQ.b;have hWW:Below w.1.size w (w4.setCell ⟨B,2,none⟩ (.int .i64 (n:Int))):=(jW.below (L:=w.1.size) ((jW.of_below HBW.o).trans ⟨hT7.os,hT7.tape,hT7.output,hT7.size,fun b hb hL=>hT7.block b hb (by omega)⟩) (Nat.le_refl _));have HWW:=hI hWW;have hPQ:¬P=Q:=by omega
    have hQP:¬Q=P:=by omega
    have hPB:¬P=B:=by omega
    have hBP:¬B=P:=by omega
    have hQB:¬Q=B:=by omega
    have hBQ:¬B=Q:=by omega
    clear hb7 hm hP hQ hT7 hxB hWW hu2;generalize (w4.setCell ⟨B,2,none⟩ (.int .i64 (n:Int)))=W8 at *;have hPl:P < W8.1.size:=qJ p0;have hQl:Q < W8.1.size:=qJ q0;go_wp2
    refine leaves_cons (f:=63) (args:=#[.pointer (some ⟨P,0,none⟩), .pointer (some ⟨Q,0,none⟩)]) (by simp) (by simp[go_sem]) ?_;refine(qPm ⟨P,0,none⟩ ⟨Q,0,none⟩ _).mono ?_;rintro e u' w9 ⟨rfl,rfl,rfl⟩;refine⟨.tuple #[.agg #[.slice gq gs.length gc, .slice (some ⟨F,0,none⟩) fs2.length FC, .int .i64 n], .agg #[.int .i64 0, .int .i64 0, .int .i64 0]],by simp[results,results45,go_sem, *],?_⟩;refine qZZ.okI HRES.o ?_ (jR (jR (jR (jR (jR (jR HWW.o (by omega) _) (by omega) _) (by omega) _) (by omega) _) (by omega) _) (by omega) _);refine qZ2.of (P:=P) (Q:=Q) HB6.o HLF6.o HBL6.o hn HKP.o HKQ.o (by omega) (fun b hb h1 h2 h3=>?_);rw[hS _ _ _ _ h3,hS _ _ _ _ h3,hS _ _ _ _ h3,hS _ _ _ _ h2,hS _ _ _ _ h2,hS _ _ _ _ h2];exact HXB.o b hb h1
open Go.ChangeShapes Go.WideShapes Go.ChangeAt Go.RowKit Go.Deep
theorem Tryz.own:ownKnob Tryz.prog.godebug=none:=by kernel_rfl
theorem Tryz.laidOut:laidOutB Tryz.prog=true:=by kernel_rfl
theorem gKeys:Tryz.prog.globalNamed "skua/lex.keywords"=some 6:=by kernel_rfl
theorem tKeys:(Tryz.prog.globals[6]?).map (·.type)=some 113:=by kernel_rfl
theorem gSigns:Tryz.prog.globalNamed "skua/lex.signs"=some 0:=by kernel_rfl
theorem tSigns:(Tryz.prog.globals[0]?).map (·.type)=some 113:=by kernel_rfl
theorem gTypes:Tryz.prog.globalNamed "skua/parse.types"=some 5:=by kernel_rfl
theorem tTypes:(Tryz.prog.globals[5]?).map (·.type)=some 113:=by kernel_rfl
theorem gPow:Tryz.prog.globalNamed "internal/strconv.uint64pow10"=some 7:=by kernel_rfl
theorem tPow:(Tryz.prog.globals[7]?).map (·.type)=some 194:=by kernel_rfl
theorem c47:Tryz.prog.cellsOf 47=1:=by kernel_rfl
theorem c194:Tryz.prog.cellsOf 194=20:=by kernel_rfl
theorem c9:Tryz.prog.cellsOf 9=1:=by kernel_rfl
theorem gWord:Tryz.prog.globalNamed "skua/word.types"=some 4:=by kernel_rfl
theorem tWord:(Tryz.prog.globals[4]?).map (·.type)=some 170:=by kernel_rfl
theorem gBool:Tryz.prog.globalNamed "skua/check.boolean"=some 1:=by kernel_rfl
theorem tBool:(Tryz.prog.globals[1]?).map (·.type)=some 37:=by kernel_rfl
theorem gWide:Tryz.prog.globalNamed "skua/check.wide"=some 2:=by kernel_rfl
theorem tWide:(Tryz.prog.globals[2]?).map (·.type)=some 37:=by kernel_rfl
theorem c172:Tryz.prog.cellsOf 172=3:=by kernel_rfl
theorem c37:Tryz.prog.cellsOf 37=2:=by kernel_rfl
theorem c3:Tryz.prog.cellsOf 3=1:=by kernel_rfl
theorem c4:Tryz.prog.cellsOf 4=1:=by kernel_rfl
def strD(l:List UInt8):DataW Unit:=.lit (.string l)
theorem laid_keys:(Rows.laid_skua_lex_keywords:DataW Unit)=.slice (qZ3.map strD) []:=by rfl
theorem laid_signs:(Rows.laid_skua_lex_signs:DataW Unit)=.slice (qQv.map strD) []:=by rfl
theorem laid_types:(Rows.laid_skua_parse_types:DataW Unit)=.slice (qQw.map strD) []:=by rfl
theorem laid_pow:(Rows.laid_internal_strconv_uint64pow10:DataW Unit)=Lib.tabData .u64 Lib.pow10Tab:=by rfl
theorem str_cell{enc:TypeId×Value->Unit}{W:World}{base:Nat}{sp:Nat->Bool}{held:Bool}{n:Nat}{l:List UInt8}{cs:List Value}{pl:List MemPlace}
 (h:DataW.trod enc Tryz.prog W base sp held n 9 cs=some (strD l,pl)):cs=[.string ⟨l.toArray⟩]:=by
 obtain⟨s,e1,e2,_⟩:=DataW.trod_string Tryz.underlying9 h;simp[strD]at e2;rw[e1,e2.1]
theorem strtab_of{W:World}{g n:Nat}{nm:String}{L:List (List UInt8)}{cs:Array Value}{fu:Nat}{p:List MemPlace}(hn:L.length=n)(hpos:0 < n)(hg:Tryz.prog.globalNamed nm=some g)(hv:W.var? Tryz.prog nm=some cs)
 (hd:DataW.trod (fun _=>()) Tryz.prog W 0 (fun _=>true) false fu 113 cs.toList=some (.slice (L.map strD) [],p)):∃ b off cap,qZ0 g n L b off cap W:=by
 rcases open_slice1 Tryz.underlying113 c9 hd with⟨_,hx⟩ | ⟨a,len,cap,m,k,V,D,Pl,hcs,_,hl,hm,hmm,hx,hi⟩
 ·simp at hx
 ·simp only[Prod.mk.injEq,DataW.slice.injEq]at hx;have hlen:len=n:=by
   have:=congrArg List.length hx.1.1;rw[List.length_map,List.length_map,List.length_range]at this;omega
  subst hlen;have hD:∀ i,i < len->D i=strD (L.getD i []):=by
   intro i hi9;have:=congrArg (fun l=>l[i]?) hx.1.1;have hL:i < L.length:=by omega
   simp[hi9,hL]at this;rw[List.getD_eq_getElem?_getD,List.getElem?_eq_getElem hL];exact this.symm
  have hm9:len<=m:=by rw[hmm];simpa using hl
  have hrow:∀ i,i < len->W.cell? (a.add i)=some (.string ⟨(L.getD i []).toArray⟩):=by
   intro i hi9;obtain⟨hc,ht'⟩:=hi i (by omega);rw[hD i hi9]at ht';have:=str_cell ht';rw[List.cons.injEq]at this;rw[hc,this.1]
  obtain⟨b,off,spot⟩:=a;have h00:=hrow 0 (by omega);have hspot:spot=none:=by
   cases spot with
   | none=>rfl
   | some k =>
    simp[Addr.add,World.cell?]at h00;split at h00 <;> simp at h00
  subst hspot;have hadd:∀ i,((⟨b,off,none⟩:Addr).add i)=⟨b,off+i,none⟩:=by
   intro i;unfold Addr.add;by_cases h1:i=0 <;> simp[h1]
  refine⟨b,off,cap,?_,fun i hi9=>?_⟩
  ·have:=World.var?_cell hg hv 0;rw[Array.eq_one_of_toList hcs]at this;simpa using this
  ·rw[<-hadd];exact hrow i hi9
def rowD(i:Nat):DataW Unit:=.agg [.lit (.string (tN i).data.toList), .agg [.lit (.int .i64 (tW i)), .lit (.bool (tS i))]]
theorem laid_rows:(Rows.laid_skua_word_types:DataW Unit)=.slice ((List.range 9).map rowD) []:=by rfl
theorem row_cells{enc:TypeId×Value->Unit}{W:World}{base:Nat}{sp:Nat->Bool}{held:Bool}{n i:Nat}{cs:List Value}{pl:List MemPlace}
 (h:DataW.trod enc Tryz.prog W base sp held n 172 cs=some (rowD i,pl)):cs=[.string (tN i), .int .i64 (tW i), .bool (tS i)]:=by
 obtain⟨xs,m,_,hx,hlen,hxl,hf⟩:=DataW.trod_struct Tryz.underlying172 h;rw[c172]at hlen;simp only[Prod.mk.injEq]at hx;have f0:DataW.trod enc Tryz.prog W base sp held m 9 ((cs.drop 0).take (Tryz.prog.cellsOf 9))=xs[0]?:=hf 0 _ rfl;have f1:DataW.trod enc Tryz.prog W base sp held m 37 ((cs.drop 1).take (Tryz.prog.cellsOf 37))=xs[1]?:=hf 1 _ rfl;rw[c9]at f0;rw[c37]at f1;match cs,hlen with
 | [x,y,z],_ =>
  match xs,hxl with
  | [u0,u1],_ =>
   simp only[List.drop_zero,List.drop_succ_cons,List.take_succ_cons,List.take_zero,List.getElem?_cons_zero,List.getElem?_cons_succ,List.take_nil]at f0 f1;obtain⟨s,e1,e2,_⟩:=DataW.trod_string Tryz.underlying9 f0;obtain⟨ys,m',_,hy,hl2,hyl,hg⟩:=DataW.trod_struct Tryz.underlying37 f1;have g0:DataW.trod enc Tryz.prog W base sp held m' 3 (([y,z].drop 0).take (Tryz.prog.cellsOf 3))=ys[0]?:=hg 0 _ rfl;have g1:DataW.trod enc Tryz.prog W base sp held m' 4 (([y,z].drop 1).take (Tryz.prog.cellsOf 4))=ys[1]?:=hg 1 _ rfl;rw[c3]at g0;rw[c4]at g1;match ys,hyl with
   | [w0,w1],_ =>
    simp only[List.drop_zero,List.drop_succ_cons,List.take_succ_cons,List.take_zero,List.getElem?_cons_zero,List.getElem?_cons_succ,List.take_nil]at g0 g1;obtain⟨k,e3,e4,_⟩:=DataW.trod_int Tryz.underlying3 g0;obtain⟨b,e5,e6⟩:=DataW.trod_bool Tryz.underlying4 g1;have hd:=hx.1;subst e2 e4 e6 hy;simp[rowD]at hd;obtain⟨hs,hk,hb⟩:=hd;simp at e1 e3 e5;subst e1 e3 e5 hk hb;have:tN i=s:=by
     cases hT:tN i with
     | mk d1 =>
      cases s with
      | mk d2 =>
       rw[hT]at hs;simp at hs;rw[hs]
    rw[this]
theorem wtab_of{W:World}{cs:Array Value}{fu:Nat}{p:List MemPlace}(hg:Tryz.prog.globalNamed "skua/word.types"=some 4)(hv:W.var? Tryz.prog "skua/word.types"=some cs)
 (hd:DataW.trod (fun _=>()) Tryz.prog W 0 (fun _=>true) false fu 170 cs.toList=some (Rows.laid_skua_word_types,p)):qKi W:=by
 rw[laid_rows]at hd;rcases open_slice Tryz.underlying170 hd with⟨_,hx⟩ | ⟨a,len,cap,m,n,D,Pl,hcs,_,hl,hm,hmm,hx,hi⟩
 ·simp at hx
 ·simp only[Prod.mk.injEq,DataW.slice.injEq]at hx;have hlen:len=9:=by
   have:=congrArg List.length hx.1.1;simpa using this.symm
  subst hlen;have hD:∀ i,i < 9->D i=rowD i:=by
   intro i hi9;have:=congrArg (fun l=>l[i]?) hx.1.1;simp[hi9]at this;exact this.symm
  have hm9:9<=m:=by rw[hmm];simpa using hl
  have hrow:∀ i,i < 9->∀ j,j < 3->W.cell? ((a.add (i * 3)).add j)=[Value.string (tN i), .int .i64 (tW i), .bool (tS i)][j]?:=by
   intro i hi9 j hj;obtain⟨cs',hc,ht'⟩:=hi i (by omega);rw[c172]at hc;rw[hD i hi9]at ht';obtain⟨_,_,hat⟩:=World.cells?_some hc;rw[hat j hj,row_cells ht']
  obtain⟨b,off,spot⟩:=a;have h00:=hrow 0 (by omega) 0 (by omega);have hspot:spot=none:=by
   cases spot with
   | none=>rfl
   | some k =>
    simp[Addr.add,World.cell?]at h00;split at h00 <;> simp at h00
  subst hspot;have hadd:∀ i j,((⟨b,off,none⟩:Addr).add (i * 3)).add j=⟨b,off+i * 3+j,none⟩:=by
   intro i j;unfold Addr.add;by_cases h1:i * 3=0 <;> by_cases h2:j=0 <;> simp[h1,h2]
  refine⟨b,off,cap,?_,fun i hi9=>?_,fun i hi9=>?_,fun i hi9=>?_⟩
  ·have:=World.var?_cell hg hv 0;rw[Array.eq_one_of_toList hcs]at this;simpa using this
  ·have:=hrow i hi9 0 (by omega);rw[hadd]at this;simpa using this
  ·have:=hrow i hi9 1 (by omega);rw[hadd]at this;simpa using this
  ·have:=hrow i hi9 2 (by omega);rw[hadd]at this;simpa using this
theorem type_cells{enc:TypeId×Value->Unit}{W:World}{base:Nat}{sp:Nat->Bool}{held:Bool}{n:Nat}{cs:List Value}{pl:List MemPlace}{k:Int}{b:Bool}
 (h:DataW.trod enc Tryz.prog W base sp held n 37 cs=some (.agg [.lit (.int .i64 k), .lit (.bool b)],pl)):cs=[.int .i64 k, .bool b]:=by
 obtain⟨ys,m',_,hy,hl2,hyl,hg⟩:=DataW.trod_struct Tryz.underlying37 h;rw[c37]at hl2;match cs,hl2 with
 | [y,z],_ =>
  have g0:DataW.trod enc Tryz.prog W base sp held m' 3 (([y,z].drop 0).take (Tryz.prog.cellsOf 3))=ys[0]?:=hg 0 _ rfl;have g1:DataW.trod enc Tryz.prog W base sp held m' 4 (([y,z].drop 1).take (Tryz.prog.cellsOf 4))=ys[1]?:=hg 1 _ rfl;rw[c3]at g0;rw[c4]at g1;match ys,hyl with
  | [w0,w1],_ =>
   simp only[List.drop_zero,List.drop_succ_cons,List.take_succ_cons,List.take_zero,List.getElem?_cons_zero,List.getElem?_cons_succ,List.take_nil]at g0 g1;obtain⟨k',e3,e4,_⟩:=DataW.trod_int Tryz.underlying3 g0;obtain⟨b',e5,e6⟩:=DataW.trod_bool Tryz.underlying4 g1;subst e4 e6;simp at hy;obtain⟨⟨hk,hb⟩,_⟩:=hy;simp at e3 e5;subst e3 e5 hk hb;rfl
theorem type_of{W:World}{g:Nat}{nm:String}{cs:Array Value}{fu:Nat}{p:List MemPlace}{k:Int}{b:Bool}(hg:Tryz.prog.globalNamed nm=some g)(hv:W.var? Tryz.prog nm=some cs)
 (hd:DataW.trod (fun _=>()) Tryz.prog W 0 (fun _=>true) false fu 37 cs.toList=some (.agg [.lit (.int .i64 k), .lit (.bool b)],p)):W.cell? ⟨g,0,none⟩=some (.int .i64 k)/\W.cell? ⟨g,1,none⟩=some (.bool b):=by
 have hc:=type_cells hd;have e:cs=#[.int .i64 k, .bool b]:=by rw[<-Array.toArray_toList (xs:=cs),hc]
 have h0:=World.var?_cell hg hv 0;have h1:=World.var?_cell hg hv 1;rw[e]at h0 h1;exact⟨h0,h1⟩
theorem tab_of_laid{W:World}(h:laidMetH Tryz.prog [("math/bits.deBruijn32tab",Rows.laid_math_bits_deBruijn32tab),("math/bits.deBruijn64tab",Rows.laid_math_bits_deBruijn64tab),("internal/strconv.uint64pow10",Rows.laid_internal_strconv_uint64pow10),("skua/word.types",Rows.laid_skua_word_types),("skua/lex.signs",Rows.laid_skua_lex_signs),("skua/lex.keywords",Rows.laid_skua_lex_keywords),("skua/parse.types",Rows.laid_skua_parse_types),("skua/check.boolean",Rows.laid_skua_check_boolean),("skua/check.wide",Rows.laid_skua_check_wide)] W):qWB W/\qYA W:=by
 rw[MakeChecks.laidMetH_plain _ _ _ (by kernel_rfl)]at h;obtain⟨ps,⟨g1,t1,cs1,fu1,p1,q1,hg1,ht1,hv1,hd1,⟨g2,t2,cs2,fu2,p2,q2,hg2,ht2,hv2,hd2,⟨g3,t3,cs3,fu3,p3,q3,hg3,ht3,hv3,hd3,⟨g7,t7,cs7,fu7,p7,q7,hg7,ht7,hv7,hd7,⟨g4,t4,cs4,fu4,p4,q4,hg4,ht4,hv4,hd4,⟨g5,t5,cs5,fu5,p5,q5,hg5,ht5,hv5,hd5,⟨g6,t6,cs6,fu6,p6,q6,hg6,ht6,hv6,hd6,⟨g8,t8,cs8,fu8,p8,q8,hg8,ht8,hv8,hd8,⟨g9,t9,cs9,fu9,p9,q9,hg9,ht9,hv9,hd9,_,_⟩,_⟩,_⟩,_⟩,_⟩,_⟩,_⟩,_⟩,_⟩,_,_⟩:=h;obtain rfl:=Option.some.inj (gPow.symm.trans hg3);obtain rfl:=Option.some.inj (tPow.symm.trans ht3);obtain rfl:=Option.some.inj (gSigns.symm.trans hg4);obtain rfl:=Option.some.inj (tSigns.symm.trans ht4);obtain rfl:=Option.some.inj (gKeys.symm.trans hg5);obtain rfl:=Option.some.inj (tKeys.symm.trans ht5);obtain rfl:=Option.some.inj (gTypes.symm.trans hg6);obtain rfl:=Option.some.inj (tTypes.symm.trans ht6);obtain rfl:=Option.some.inj (gWord.symm.trans hg7);obtain rfl:=Option.some.inj (tWord.symm.trans ht7);obtain rfl:=Option.some.inj (gBool.symm.trans hg8);obtain rfl:=Option.some.inj (tBool.symm.trans ht8);obtain rfl:=Option.some.inj (gWide.symm.trans hg9);obtain rfl:=Option.some.inj (tWide.symm.trans ht9);have hw:=wtab_of gWord hv7 hd7;obtain⟨bb0,bb1⟩:=type_of gBool hv8 hd8;obtain⟨dd0,dd1⟩:=type_of gWide hv9 hd9;rw[laid_pow]at hd3;rw[laid_signs]at hd4;rw[laid_keys]at hd5;rw[laid_types]at hd6;have hp:Pow W:=by
  unfold Pow Lib.TabIs;rw[hv3,<-Lib.cells_of_tab Tryz.underlying194 Tryz.underlying47 c47 c194 hd3]
 obtain⟨b1,o1,k1,h1⟩:=strtab_of (g:=6) (n:=19) rfl (by decide) hg5 hv5 hd5;obtain⟨b2,o2,k2,h2⟩:=strtab_of (g:=5) (n:=9) rfl (by decide) hg6 hv6 hd6;have h3:=strtab_of (g:=0) (n:=29) rfl (by decide) hg4 hv4 hd4;have hlt:=hp.lt;refine⟨?_,bb0,bb1,dd0,dd1,hw⟩;exact⟨⟨⟨by omega,Nat.le_refl _,⟨b1,o1,k1,h1,qJ (h1.tn 0 (by decide))⟩,⟨b2,o2,k2,h2,qJ (h2.tn 0 (by decide))⟩⟩,h3⟩,hp⟩
theorem door_met(os:Os)(args:Array Value):laidMetH Tryz.prog [("math/bits.deBruijn32tab",Rows.laid_math_bits_deBruijn32tab),("math/bits.deBruijn64tab",Rows.laid_math_bits_deBruijn64tab),("internal/strconv.uint64pow10",Rows.laid_internal_strconv_uint64pow10),("skua/word.types",Rows.laid_skua_word_types),("skua/lex.signs",Rows.laid_skua_lex_signs),("skua/lex.keywords",Rows.laid_skua_lex_keywords),("skua/parse.types",Rows.laid_skua_parse_types),("skua/check.boolean",Rows.laid_skua_check_boolean),("skua/check.wide",Rows.laid_skua_check_wide)] ((World.doorLaid Tryz.prog 400 os).forCall (fun _ _=>0) ⟨#[],args,[]⟩).memory :=
 laidMetH_of_parts3 (fuel:=8) (laidMet_of_run' 8 (by kernel_rfl) (by kernel_rfl)) (by kernel_rfl) (by kernel_rfl)
theorem trodAll_carry{H:Type}{enc:TypeId×Value->H}{W W':World}(hb:Below W.1.size W W') :
 ∀ (ts:List TypeId) (vs:List Value) (ds:List (DataW H)) (ps:List MemPlace),(∀ t∈ts,Tryz.prog.readableRec t=true/\t < Tryz.prog.types.size)->(∀ x∈ps,x.block < W.1.size) ->
  DataW.TrodAll enc Tryz.prog W 0 (fun _=>true) true ts vs ds ps->DataW.TrodAll enc Tryz.prog W' 0 (fun b=>decide (b < W.1.size)) true ts vs ds ps
 | [],[],[],_,_,_,h=>h
 | t :: ts,v :: vs,d :: ds,ps,ht,hp,h=>by
  obtain⟨p,q,h1,h2,rfl⟩:=h;exact⟨p,q,Below.trod Tryz.laidOut (ht t (by simp)).1 (ht t (by simp)).2 h1 hb (fun x hx=>hp x (by simp[hx])),trodAll_carry hb ts vs ds q (fun u hu=>ht u (by simp[hu])) (fun x hx=>hp x (by simp[hx])) h2,rfl⟩
theorem law_post{H:Type}{enc:TypeId×Value->H}{f:Func}{s:ChangeSpec}{W W':World}{args:Array Value}{ds:List (DataW H)}{before:List MemPlace}
 (hts:∀ t∈f.params.toList,Tryz.prog.readableRec t=true/\t < Tryz.prog.types.size) (hres:f.resultTypes=#[4]) (hvars:s.vars=[])
 (hfn:s.fn H (ds++[])={ results:=[.lit (.bool true)],args:=ds }) (hW:DataW.Whole enc Tryz.prog f.params.toList s.vars false W args.toList ds [] before) (hb:Below W.1.size W W') :
 s.post enc Tryz.prog f false true false false W args (.bool true) W':=by
 have hlt:∀ p∈before,p.block < W.1.size:=fun p hp=>hW.lt p hp
 have hW0:=hW;obtain⟨p,q,hA,hV,rfl,_,_⟩:=hW;rw[hvars]at hV;obtain rfl:q=[]:=hV;refine⟨ds,[],p++[],[],p,[],hW0,?_,?_,?_,hb.frame _,fun h=>by cases h⟩
 ·rw[hfn,hres];exact trodAll_mk1 (shut_bool Tryz.underlying4 true)
 ·rw[hfn];exact trodAll_carry hb _ _ _ _ hts (fun x hx=>hlt x (by simp[hx])) hA
 ·rw[hfn,hvars];rfl
section
variable {H:Type} {enc:TypeId×Value->H} {W:World} {b:Nat} {v:Value} {d:DataW H} {p:List MemPlace}
theorem as_str(hv:Value.okWide Tryz.prog W .any b 9 v)(h:DataW.Trod enc Tryz.prog W 0 (fun _=>true) true 9 v d p):∃ s:ByteArray,v=.string s/\s.size<=maxLen:=by
 obtain⟨s,rfl,_,_,hs⟩:=ChangeMaps.open_string Tryz.underlying9 hv h;exact⟨s,rfl,hs⟩
end
open Go
def qZ5:List qWi->List UInt8
 | []=>[]
 | t :: r=>(if t.kind=3 then []else 32 :: t.text)++qZ5 r
def qYl:List qWi->List UInt8
 | []=>[]
 | t :: r=>(if t.kind=3 then []else t.text)++qZ5 r
def qPa(y:List UInt8):Prop:=y=[]\/∃ z,y=32 :: z
theorem span_take{p:Int->Bool}(l y:List UInt8)(hy:xQ p y=0):xQ p (l.take (xQ p l)++y)=xQ p l:=by
 induction l with
 | nil=>simpa[xQ]using hy
 | cons a r ih =>
  rw[xQ];cases h:p (a.toNat:Int)with
  | true=>simp only[if_true];rw[List.take_succ_cons,lC,xQ,h,if_pos rfl,ih]
  | false=>simpa using hy
theorem qLN{y:List UInt8}(h:qPa y):xQ qQZ y=0:=by
 rcases h with rfl | ⟨z,rfl⟩
 ·rfl
 ·exact qLS (by decide)
theorem qUV{y:List UInt8}(hy:qPa y)(g s:List UInt8)(hg:(32:UInt8)∉g):Lib.hasPrefix (s++y) g=Lib.hasPrefix s g:=by
 rcases hy with rfl | ⟨z,rfl⟩
 ·rw[lA]
 ·exact qYK g s hg
theorem qP1{l g:List UInt8}(n:Nat)(h:Lib.hasPrefix (l.take n) g=true):Lib.hasPrefix l g=true:=by
 unfold Lib.hasPrefix at *;rw[List.isPrefixOf_iff_prefix]at *;exact h.trans (List.take_prefix n l)
theorem sign_take{y:List UInt8}(hy:qPa y)(l:List UInt8)(gs:List (List UInt8))(hg:∀ g∈gs,(32:UInt8)∉g)(h0:vK l gs≠0) :
 vK (l.take (vK l gs)++y) gs=vK l gs:=by
 induction gs with
 | nil=>exact absurd rfl h0
 | cons g r ih =>
  rw[vK]at h0 ⊢;rw[vK,qUV hy g _ (hg g (by simp))];cases hp:Lib.hasPrefix l g with
  | true =>
   simp only[if_true];have hpre:g <+: l:=List.isPrefixOf_iff_prefix.mp hp;have e:l.take g.length=g:=(List.prefix_iff_eq_take.mp hpre).symm;have:Lib.hasPrefix (l.take g.length) g=true:=by
    rw[e];exact List.isPrefixOf_iff_prefix.mpr (List.prefix_refl g)
   rw[if_pos this]
  | false =>
   have e0:(if false=true then g.length else vK l r)=vK l r:=if_neg (by decide);rw[e0];rw[hp,e0]at h0;have hno:Lib.hasPrefix (l.take (vK l r)) g=false:=by
    cases hh:Lib.hasPrefix (l.take (vK l r)) g with
    | false=>rfl
    | true=>rw[qP1 _ hh]at hp;cases hp
   rw[hno,if_neg (by decide)];exact ih (fun x hx=>hg x (by simp[hx])) h0
theorem qLb(r:List UInt8):qZ6 (47 :: r)=1:=by
 simp[qZ6,qQv,vK,Lib.hasPrefix,List.isPrefixOf]
theorem again{b:UInt8}{l y:List UInt8}(hy:qPa y)(hb:yK (b.toNat:Int)=false)(hc:Lib.hasPrefix (b :: l) cmt=false)(he:wK (b :: l)=0) :
 qZp ((b :: l).take (zZ (b :: l))++y)=(qZp y).map (qYO (b :: l) :: ·):=by
 have hp:=qQW he;have hle:=wG (b :: l);obtain⟨n,hn⟩:∃ n,zZ (b :: l)=n+1:=⟨zZ (b :: l) - 1,by omega⟩;have htx:(b :: l).take (zZ (b :: l))++y=b :: (l.take n++y):=by rw[hn,List.take_succ_cons,lC]
 have hK:vA (b :: (l.take n++y))=vA (b :: l):=rfl;have hN:zZ (b :: (l.take n++y))=zZ (b :: l):=by
  have h1:qZx (b.toNat:Int)=true\/qQa (b.toNat:Int) < 10->xQ qQZ (b :: (l.take n++y))=xQ qQZ (b :: l):=fun hh=>by
   have e:zZ (b :: l)=xQ qQZ (b :: l):=by
    rw[zZ];by_cases h1:qZx (b.toNat:Int)=true
    ·rw[if_pos h1]
    ·rw[if_neg h1,if_pos (hh.resolve_left h1)]
   rw[<-htx,e];exact span_take _ _ (qLN hy)
  have h2:¬(qZx (b.toNat:Int)=true)->¬qQa (b.toNat:Int) < 10->qZ6 (b :: (l.take n++y))=qZ6 (b :: l):=fun g1 g2=>by
   have e:zZ (b :: l)=qZ6 (b :: l):=by rw[zZ,if_neg g1,if_neg g2]
   rw[<-htx,e];exact sign_take hy _ _ (qLc (by decide)) (by rw[e]at hp;unfold qZ6 at hp;omega)
  rw[zZ,zZ];by_cases g1:qZx (b.toNat:Int)=true
  ·rw[if_pos g1,if_pos g1];exact h1 (.inl g1)
  ·rw[if_neg g1,if_neg g1];by_cases g2:qQa (b.toNat:Int) < 10
   ·rw[if_pos g2,if_pos g2];exact h1 (.inr g2)
   ·rw[if_neg g2,if_neg g2];exact h2 g1 g2
 have hlen:((b :: l).take (zZ (b :: l))).length=zZ (b :: l):=by rw[List.length_take];omega
 have hT:(b :: (l.take n++y)).take (zZ (b :: l))=(b :: l).take (zZ (b :: l)):=by
  rw[<-htx,List.take_append_of_le_length (by omega),List.take_of_length_le (by omega)]
 have hD:(b :: (l.take n++y)).drop (zZ (b :: l))=y:=by
  rw[<-htx,List.drop_append_of_le_length (by omega),List.drop_of_length_le (by omega),lN]
 have hE:wK (b :: (l.take n++y))=wK (b :: l):=by unfold wK;rw[hK,hN,hT]
 have hB:qYO (b :: (l.take n++y))=qYO (b :: l):=by unfold qYO;rw[hK,hN,hT]
 have hC:Lib.hasPrefix (b :: (l.take n++y)) cmt=false:=by
  cases hh:Lib.hasPrefix (b :: (l.take n++y)) cmt with
  | false=>rfl
  | true =>
   exfalso;have h47:b=47:=by
    unfold Lib.hasPrefix cmt at hh;simp[List.isPrefixOf]at hh;exact hh.1.symm
   subst h47;have e1:zZ (47 :: l)=1:=by
    rw[zZ,if_neg (by decide),if_neg (by decide)];exact qLb l
   obtain rfl:n=0:=by omega
   rcases hy with rfl | ⟨z,rfl⟩
   ·simp[Lib.hasPrefix,cmt,List.isPrefixOf]at hh
   ·simp[Lib.hasPrefix,cmt,List.isPrefixOf]at hh
 rw[htx,bare_tok hb hC,hE,if_pos he,hN,hD,hB]
theorem qVA(l:List UInt8):¬vA l=3:=by have:=qY9 l;omega
theorem strip_gap(n:Nat)(l:List UInt8)(hn:l.length<=n):qQC (strip l)=0:=by
 induction n generalizing l with
 | zero =>
  obtain rfl:l=[]:=List.length_eq_zero_iff.mp (by omega);rfl
 | succ n ih =>
  by_cases h:qQC l=0
  ·rw[qYr h];exact h
  ·rw[qYq h];exact ih _ (by rw[List.length_drop];omega)
theorem gap_head{b:UInt8}{l:List UInt8}(h:qQC (b :: l)=0):yK (b.toNat:Int)=false/\Lib.hasPrefix (b :: l) cmt=false:=by
 unfold qQC at h;cases hc:Lib.hasPrefix (b :: l) cmt with
 | true =>
  rw[hc,if_pos rfl,xQ]at h;have h47:b=47:=by
   unfold Lib.hasPrefix cmt at hc;cases l with
   | nil=>simp[List.isPrefixOf]at hc
   | cons c r=>simp[List.isPrefixOf]at hc;exact hc.1.symm
  subst h47;rw[if_pos (by decide)]at h;omega
 | false =>
  refine⟨?_,rfl⟩;rw[hc,if_neg (by decide),xQ]at h;cases hb:yK (b.toNat:Int)with
  | false=>rfl
  | true=>rw[hb,if_pos rfl]at h;omega
theorem shown(n:Nat)(l:List UInt8)(hn:l.length<=n)(ts:List qWi)(h:qZp l=some ts) :
 (qPa (qZ5 ts)/\qZp (qZ5 ts)=some ts/\qZp (qYl ts)=some ts):=by
 induction n generalizing l ts with
 | zero =>
  obtain rfl:l=[]:=List.length_eq_zero_iff.mp (by omega);have e:qZp []=some [⟨3,[],0⟩]:=rfl;rw[e]at h;cases h;exact⟨.inl rfl,rfl,rfl⟩
 | succ n ih =>
  rw[qKW]at h;by_cases h1:strip l=[]
  ·rw[if_pos h1]at h;cases h;exact⟨.inl rfl,rfl,rfl⟩
  ·rw[if_neg h1]at h;have hg:=strip_gap _ l (Nat.le_refl _);have hls:(strip l).length<=l.length:=by
    have:=qZT l.length l 1 1;exact this
   cases hs:strip l with
   | nil=>exact absurd hs h1
   | cons b r =>
    rw[hs]at h hg hls;by_cases he:wK (b :: r)=0
    ·rw[if_pos he]at h;have hp:=qQW he;obtain⟨hb,hc⟩:=gap_head hg;cases hr:qZp ((b :: r).drop (zZ (b :: r)))with
     | none=>rw[hr]at h;cases h
     | some ts' =>
      rw[hr]at h;cases h;obtain⟨a1,a2,_⟩:=ih _ (by rw[List.length_drop];omega) ts' hr;have hk:(qYO (b :: r)).kind=vA (b :: r):=rfl;have ht:(qYO (b :: r)).text=(b :: r).take (zZ (b :: r)):=rfl;have key:=again a1 hb hc he;rw[a2]at key;have e1:qZ5 (qYO (b :: r) :: ts')=32 :: ((b :: r).take (zZ (b :: r))++qZ5 ts'):=by
       rw[qZ5,if_neg (by rw[hk];exact qVA _),ht,lC]
      have e2:qYl (qYO (b :: r) :: ts')=(b :: r).take (zZ (b :: r))++qZ5 ts':=by
       rw[qYl,if_neg (by rw[hk];exact qVA _),ht]
      refine⟨.inr ⟨_,e1⟩,?_,?_⟩
      ·rw[e1,qLO (by decide),key];rfl
      ·rw[e2,key];rfl
    ·rw[if_neg he]at h;cases h
def kN(w:List UInt8):Bool:=match w with
 | []=>false
 | b :: _=>!yK b.toNat && (!Lib.hasPrefix w cmt && (wK w == 0 && zZ w == w.length))
theorem qYm{p:Int->Bool}:∀ (l:List UInt8),(∀ b∈l,p (b.toNat:Int)=true)->xQ p l=l.length
 | [],_=>rfl
 | b :: r,h=>by
  rw[xQ,if_pos (h b (by simp)),qYm r (fun c hc=>h c (by simp[hc]))];rfl
theorem qUt:∀ (i:Nat) (l:List UInt8),qQ0 i l=true->∀ b∈l,qQZ (b.toNat:Int)=true
 | _,[],_,b,hb=>by simp at hb
 | i,c :: r,h,b,hb=>by
  simp only[qQ0,bE,Bool.or_eq_true]at h;rcases List.mem_cons.1 hb with rfl | hb
  ·unfold qQZ;rcases h.1 with h1 | h1
   ·simp[h1]
   ·have:=h1.1;simp only[qPv,decide_eq_true_eq]at this;have hd:qQa (b.toNat:Int) < 10:=by unfold qQa;rw[if_pos this];omega
    simp[hd]
  ·exact qUt (i+1) r h.2 b hb
theorem qU8{b:UInt8}{r:List UInt8}(hs:qQ0 0 (b :: r)=true):kN (b :: r)=true:=by
 have hl:qZx (b.toNat:Int)=true:=by
  simp only[qQ0,bE,Bool.or_eq_true]at hs;rcases hs.1 with h | h
  ·exact h
  ·simp at h
 have hn:zZ (b :: r)=(b :: r).length:=by
  rw[zZ,if_pos hl];exact qYm _ (qUt 0 _ hs)
 have hb:yK (b.toNat:Int)=false:=by
  unfold qZx at hl;unfold yK;simp only[decide_eq_true_eq]at hl;simp only[decide_eq_false_iff_not];omega
 have hc:Lib.hasPrefix (b :: r) cmt=false:=by
  cases hh:Lib.hasPrefix (b :: r) cmt with
  | false=>rfl
  | true =>
   exfalso;have:b=47:=by
    unfold Lib.hasPrefix cmt at hh;cases r with
    | nil=>simp[List.isPrefixOf]at hh
    | cons c r=>simp[List.isPrefixOf]at hh;exact hh.1.symm
   subst this;revert hl
   decide
 have he:wK (b :: r)=0:=by
  unfold wK;rw[hn,if_neg (by simp),show vA (b :: r)=0 by simp[vA,hl],if_neg (by decide)]
 simp only[kN,hb,hc,he,hn];simp
theorem qKg{x:List UInt8}(h:jH x=true):kN x=true:=by
 have hs:qQ0 0 x=true:=by
  unfold jH at h;simp only[bE]at h;exact h.1
 obtain⟨b,r,rfl,_,_⟩:=name_parts h;exact qU8 hs
theorem word_dec(u:Nat)(hu:u<=18446744073709551615):kN (Lib.decDigits u)=true:=by
 have hall:=qUI u;have hk:=dec_kind u;have hnum:=dec_num u hu;obtain⟨b,r,e,h1,h2⟩:=qPr u;rw[e]at hall hk hnum ⊢;have hl:qZx (b.toNat:Int)=false:=by unfold qZx;simp;omega
 have hd:qQa (b.toNat:Int) < 10:=by unfold qQa;rw[if_pos (by omega)];omega
 have hn:zZ (b :: r)=(b :: r).length:=by
  rw[zZ,if_neg (by simp[hl]),if_pos hd];refine qYm _ fun c hc=>?_
  have:=hall c hc;have hd:qQa (c.toNat:Int) < 10:=by unfold qQa;rw[if_pos (by omega)];omega
  unfold qQZ;simp[hd]
 have hb:yK (b.toNat:Int)=false:=by
  unfold yK;simp only[decide_eq_false_iff_not];omega
 have hc:Lib.hasPrefix (b :: r) cmt=false:=by
  cases hh:Lib.hasPrefix (b :: r) cmt with
  | false=>rfl
  | true =>
   exfalso;have:b=47:=by
    unfold Lib.hasPrefix cmt at hh;cases r with
    | nil=>simp[List.isPrefixOf]at hh
    | cons c r=>simp[List.isPrefixOf]at hh;exact hh.1.symm
   subst this;revert h1
   decide
 have he:wK (b :: r)=0:=by
  unfold wK;rw[hn,if_neg (by simp),hk,if_pos rfl,List.take_length,hnum];rfl
 simp only[kN,hb,hc,he,hn];simp
def shT(ws:List (List UInt8)):List UInt8:=(ws.map fun w=>32 :: w).flatten
theorem showS_cons(w:List UInt8)(r:List (List UInt8)):Lib.join (w :: r) [32]=w++shT r:=by
 rw[Lib.join_cons];rfl
def yI:List (List UInt8)->Nat
 | []=>0
 | w :: r=>w.length+1+yI r
theorem zH:∀ (a b:List (List UInt8)),yI (a++b)=yI a+yI b
 | [],b=>by simp[yI]
 | w :: r,b=>by rw[lC,yI,yI,zH r b];omega
theorem qPM:∀ (ws:List (List UInt8)),ws.length<=yI ws
 | []=>by simp
 | w :: r=>by have:=qPM r;rw[yI,lO];omega
theorem shT_len:∀ (ws:List (List UInt8)),(shT ws).length=yI ws
 | []=>rfl
 | w :: r=>by
  have e:shT (w :: r)=32 :: (w++shT r):=by simp[shT]
  rw[e,lO,lL,shT_len r,yI];omega
theorem show_len(ws:List (List UInt8)):(Lib.join ws [32]).length<=yI ws:=by
 cases ws with
 | nil=>simp[Lib.join_nil]
 | cons w r=>rw[showS_cons,lL,shT_len,yI];omega
theorem yU{t:qQ}{ks:List qQ}(h:t∈ks)(k x:List UInt8)(n l c:Int):vZ t+1<=vZ (.mk k x n l c ks):=by
 have:=qPu h 0;rw[vZ];omega
section
variable {D:Prop} {m:Nat}
end
structure qWC(t:Tok):Prop where
 name:t.kind=0->qQ0 0 t.text=true
 num:t.kind=1->0<=t.num/\t.num < 18446744073709551616/\(Lib.decDigits t.num.toNat).length<=2 * t.text.length
 len:t.text.length<=65536
 ne:t.kind≠3->t.text≠[]
def ch:List Tok->Nat
 | []=>0
 | t :: r=>t.text.length+ch r
def yT(l:List Tok):Prop:=(∀ t∈l,qWC t)/\ch l<=1000000
def PI{α:Type}(S:α->Nat->Prop)(l:List Tok)(p:PR α):Prop:=∀ a l',p=.ok a l'->yT l'/\∃ k,ch l=ch l'+k/\S a k
section
variable {α β:Type} {S:α->Nat->Prop} {S':β->Nat->Prop} {l:List Tok}
theorem PI.ok{a:α}(hl:yT l)(h:S a 0):PI S l (.ok a l):=fun a' l' e=>by injection e with e1 e2;subst e1 e2;exact⟨hl,0,rfl,h⟩
theorem PI.bad(x y c:Int):PI S l (.bad x y c):=fun _ _ e=>by cases e
theorem PI.o:PI S l .out:=fun _ _ e=>by cases e
theorem PI.bind{p:PR α}{f:α->List Tok->PR β}(h:PI S l p)(hf:∀ a l1 k,yT l1->ch l=ch l1+k->S a k->PI (fun b k2=>S' b (k+k2)) l1 (f a l1)):PI S' l (p.bind f):=by
 intro b l2 e;cases p with
 | ok a l1 =>
  obtain⟨h1,k,h2,h3⟩:=h a l1 rfl;obtain⟨h4,k2,h5,h6⟩:=hf a l1 k h1 h2 h3 b l2 e;exact⟨h4,k+k2,by omega,h6⟩
 | bad x y c=>cases e
 | out=>cases e
theorem PI.mono{S2:α->Nat->Prop}{p:PR α}(h:PI S l p)(hs:∀ a k,S a k->S2 a k):PI S2 l p:=fun a l' e=>by
 obtain⟨h1,k,h2,h3⟩:=h a l' e;exact⟨h1,k,h2,hs a k h3⟩
end
theorem qQV{may:Bool}{l:List Tok}(hl:yT l):PI (fun t k=>t=hdT l/\may=true/\qWC t/\k=t.text.length) l (jV may l):=by
 cases l with
 | nil=>exact PI.bad _ _ _
 | cons t r =>
  rw[jV];cases may
  ·exact PI.bad _ _ _
  ·intro a l' e;injection e with e1 e2;subst e1 e2;exact⟨⟨fun u hu=>hl.1 u (by simp[hu]),by have:=hl.2;rw[ch]at this;omega⟩,t.text.length,by rw[ch];omega,rfl,rfl,hl.1 t (by simp),rfl⟩
theorem xB(x:List UInt8){l:List Tok}(hl:yT l):PI (fun _ k=>k=x.length) l (jL [x] l):=by
 unfold jL;refine(qQV hl).bind fun t l1 k h1 _ h=>?_
 obtain⟨rfl,hm,_,rfl⟩:=h;have:(hdT l).text=x:=by simpa using hm
 rw[this];exact PI.ok h1 rfl
theorem pi_pass:∀ (xs:List (List UInt8)) {l:List Tok},yT l->PI (fun _ k=>xs.length<=k\/(∃ x∈xs,x=[])) l (jL xs l)
 | [],_,hl=>PI.ok hl (.inl (by simp))
 | x :: xs,l,hl=>by
  unfold jL;refine(qQV hl).bind fun t l1 k h1 _ h=>?_
  obtain⟨rfl,hm,_,rfl⟩:=h;have:(hdT l).text=x:=by simpa using hm
  refine(pi_pass xs h1).mono fun _ k2 h2=>?_
  rw[this];rcases h2 with h2 | ⟨y,hy,e⟩
  ·cases x with
   | nil=>exact .inr ⟨[],by simp,rfl⟩
   | cons b r=>exact .inl (by simp;omega)
  ·exact .inr ⟨y,by simp[hy],e⟩
theorem qW5(xs:List (List UInt8))(hx:∀ x∈xs,x≠[]){l:List Tok}(hl:yT l):PI (fun _ k=>xs.length<=k) l (jL xs l) :=
 (pi_pass xs hl).mono fun _ _ h=>h.resolve_right fun⟨x,h1,h2⟩=>hx x h1 h2
theorem qZh{S:qQ->Nat->Prop}{d:Int}{p:Int->List Tok->PR qQ}{l:List Tok}(h:PI S l (p (d+1) l)):PI S l (xX d p l):=by
 unfold xX;split
 ·exact PI.bad _ _ _
 ·exact h
def PL(P:qQ->Nat->Prop):List qQ->Nat->Prop
 | [],_=>True
 | t :: r,k=>∃ k1 k2,P t k1/\PL P r k2/\k1+k2<=k
theorem PL.snoc{P:qQ->Nat->Prop}{t:qQ}{k2:Nat}(h2:P t k2):∀ {ts:List qQ} {k1:Nat},PL P ts k1->PL P (ts++[t]) (k1+k2)
 | [],k1,_=>⟨k2,0,h2,trivial,by omega⟩
 | _ :: _,_,⟨a,b,h3,h4,h5⟩=>⟨a,b+k2,h3,PL.snoc h2 h4,by omega⟩
theorem PL.len{P:qQ->Nat->Prop}(hp:∀ t k,P t k->1<=k):∀ {ts:List qQ} {k:Nat},PL P ts k->ts.length<=k
 | [],_,_=>by simp
 | t :: r,_,⟨a,b,h1,h2,h3⟩=>by have:=hp t a h1;have:=PL.len hp h2;simp;omega
theorem PL.mem{P:qQ->Nat->Prop}:∀ {ts:List qQ} {k:Nat},PL P ts k->∀ t∈ts,∃ k1,P t k1
 | t :: r,_,⟨a,b,h1,h2,_⟩,u,hu=>by
  rcases List.mem_cons.1 hu with rfl | hu
  ·exact⟨a,h1⟩
  ·exact PL.mem h2 u hu
 | [],_,_,u,hu=>by simp at hu
theorem qWr{P:qQ->Nat->Prop}{stop:Tok->Bool}{p:List Tok->PR qQ}(hp:∀ l,yT l->PI P l (p l)):∀ (n:Nat) (acc:List qQ) (l:List Tok) (k0:Nat),yT l->PL P acc k0->PI (fun ts k=>PL P ts (k0+k)) l (vI stop p n acc l)
 | 0,_,_,_,_,_=>PI.o
 | n+1,acc,l,k0,hl,ha=>by
  rw[vI];split
  ·exact PI.ok hl ha
  ·refine(hp l hl).bind fun t l1 k h1 _ h=>?_
   exact(qWr hp n (acc++[t]) l1 (k0+k) h1 (ha.snoc h)).mono fun ts k2 h2=>by rw[<-Nat.add_assoc];exact h2
/-! ### What can be shown -/
def PW(f:(WT->qQ->Ws)->qQ->Ws)(add:Nat)(t:qQ)(k:Nat):Prop:=vZ t<=k/\qZl t/\∀ m,vZ t<=m+1->∃ ws,f (qZB m) t=some ws/\(∀ w∈ws,kN w=true)/\yI ws+add<=7 * k
theorem PW.more{f:(WT->qQ->Ws)->qQ->Ws}{add:Nat}{t:qQ}{k k':Nat}(h:PW f add t k)(hk:k<=k'):PW f add t k' :=
 ⟨Nat.le_trans h.1 hk,h.2.1,fun m hm=>by obtain⟨ws,h1,h2,h3⟩:=h.2.2 m hm;exact⟨ws,h1,h2,by omega⟩⟩
abbrev EW:qQ->Nat->Prop:=PW qY7 4
theorem qJD(t:qQ):1<=vZ t:=by cases t;rw[vZ];omega
theorem qY5:∀ (ts:List qQ) (m j:Nat),m<=j->(∀ t∈ts,vZ t<=j)->qKn m ts<=j
 | [],m,j,h,_=>by rw[qKn];exact h
 | t :: r,m,j,h,ht=>by
  rw[qKn];exact qY5 r _ j (Nat.max_le.2 ⟨h,ht t (by simp)⟩) (fun u hu=>ht u (by simp[hu]))
theorem qVZ{k x:List UInt8}{n l c:Int}{ks:List qQ}{j:Nat}(h1:1<=j)(h:∀ t∈ks,vZ t+1<=j):vZ (.mk k x n l c ks)<=j:=by
 have:=qY5 ks 0 (j - 1) (by omega) (fun t ht=>by have:=h t ht;omega);rw[vZ];omega
theorem qJC{k x:List UInt8}{n l c:Int}{j:Nat}(h:1<=j):vZ (.mk k x n l c [])<=j:=qVZ h (fun t ht=>by simp at ht)
theorem qK1{k x:List UInt8}{n l c:Int}{a:qQ}{j:Nat}(h:vZ a+1<=j):vZ (.mk k x n l c [a])<=j:=qVZ (by omega) (fun t ht=>by obtain rfl:t=a:=(by simpa using ht);exact h)
theorem qY4{k x:List UInt8}{n l c:Int}{a b:qQ}{j:Nat}(h:vZ a+1<=j)(h2:vZ b+1<=j):vZ (.mk k x n l c [a,b])<=j:=qVZ (by omega) (fun t ht=>by
 simp only[List.mem_cons,List.not_mem_nil,or_false]at ht;rcases ht with rfl | rfl
 ·exact h
 ·exact h2)
theorem deep3{k x:List UInt8}{n l c:Int}{a b d:qQ}{j:Nat}(h:vZ a+1<=j)(h2:vZ b+1<=j)(h3:vZ d+1<=j):vZ (.mk k x n l c [a,b,d])<=j:=qVZ (by omega) (fun t ht=>by
 simp only[List.mem_cons,List.not_mem_nil,or_false]at ht;rcases ht with rfl | rfl | rfl
 ·exact h
 ·exact h2
 ·exact h3)
theorem PL.memle{P:qQ->Nat->Prop}:∀ {ts:List qQ} {k:Nat},PL P ts k->∀ t∈ts,∃ k1,P t k1/\k1<=k
 | t :: r,_,⟨a,b,h1,h2,_⟩,u,hu=>by
  rcases List.mem_cons.1 hu with rfl | hu
  ·exact⟨a,h1,by omega⟩
  ·obtain⟨k1,h3,h4⟩:=PL.memle h2 u hu;exact⟨k1,h3,by omega⟩
 | [],_,_,u,hu=>by simp at hu
theorem EW.rec{t:qQ}{k:Nat}(h:EW t k){m:Nat}(hm:vZ t<=m):∃ ws,qZB m .expr t=some ws/\(∀ w∈ws,kN w=true)/\yI ws+4<=7 * k:=by
 have:=qJD t;obtain⟨j,rfl⟩:∃ j,m=j+1:=⟨m - 1,by omega⟩;exact h.2.2 j hm
theorem EW.operand{t:qQ}{k:Nat}(h:EW t k){m:Nat}(hm:vZ t<=m):∃ ws,wZ (qZB m) t=some ws/\(∀ w∈ws,kN w=true)/\yI ws<=7 * k:=by
 obtain⟨ws,h1,h2,h3⟩:=h.rec hm;unfold wZ;split
 ·refine⟨[[40]]++(ws++[[41]]),by rw[h1];rfl,fun w hw=>?_,by rw[zH,zH];simp[yI];omega⟩;simp only[List.mem_append,List.mem_singleton]at hw;rcases hw with rfl | hw | rfl
  ·decide
  ·exact h2 w hw
  ·decide
 ·exact⟨ws,h1,h2,by omega⟩
theorem qUR{t:Tok}(ht:qWC t)(h:kR t=true):jH t.text=true/\1<=t.text.length:=by
 simp only[kR,bE,beq_iff_eq,Bool.not_eq_true']at h;have h1:=ht.name h.1;have h2:=ht.ne (by rw[h.1];decide);refine⟨?_,by cases hx:t.text with | nil=>exact absurd hx h2 | cons b r=>simp⟩;unfold jH;rw[h1,h.2];simpa using h2
theorem qXh{x:List UInt8}(h:yG x=true):kN x=true/\2<=x.length/\x.length<=4:=by
 have hall:∀ y∈qQw,kN y=true/\2<=y.length/\y.length<=4:=by decide
 exact hall x (type_in h)
theorem op_word{x:List UInt8}(h:0<=xL x):kN x=true/\1<=x.length/\x.length<=2:=by
 have hall:∀ y∈([[124,124],[38,38],[124],[94],[38],[61,61],[33,61],[60],[60,61],[62],[62,61],[60,60],[62,62],[43],[45],[42],[47],[37]]:List (List UInt8)),kN y=true/\1<=y.length/\y.length<=2:=by decide
 exact hall x (op_in h)
theorem jP{a b:List (List UInt8)}(ha:∀ w∈a,kN w=true)(hb:∀ w∈b,kN w=true):∀ w∈a++b,kN w=true:=fun w hw=>by
 rcases List.mem_append.1 hw with h | h
 ·exact ha w h
 ·exact hb w h
theorem xI{a:List (List UInt8)}(h:(a.all fun w=>kN w)=true):∀ w∈a,kN w=true:=fun w hw=>by
 rw[List.all_eq_true]at h;exact h w hw
theorem ew_name{x:List UInt8}(hx:jH x=true)(h1:1<=x.length)(h2:x.length<=65536)(ln co:Int):PW wU 4 (.mk zM x 0 ln co []) x.length:=by
 refine⟨qJC h1,⟨by decide,by omega,by decide,by decide,by simp,trivial⟩,fun m _=>⟨[x],?_,fun w hw=>?_,by simp[yI];omega⟩⟩
 ·rw[qKN,if_neg (by decide)];simp[ifW,hx]
 ·obtain rfl:w=x:=by simpa using hw
  exact qKg hx
theorem ew_index{x:List UInt8}(hx:jH x=true)(h1:1<=x.length)(h2:x.length<=65536)(ln co:Int){e:qQ}{k k':Nat}(he:EW e k)(hk:x.length+2+k<=k'):PW wU 4 (.mk qL x 0 ln co [e]) k':=by
 refine⟨qK1 (by have:=he.1;omega),⟨by decide,by omega,by decide,by decide,by simp,he.2.1,trivial⟩,fun m hm=>?_⟩;have hd:=yU (t:=e) (ks:=[e]) (by simp) qL x 0 ln co;obtain⟨ws,h3,h4,h5⟩:=he.rec (m:=m) (by omega);refine⟨[x,[91]]++(ws++[[93]]),?_,jP (fun w hw=>?_) (jP h4 (xI (by decide))),by rw[zH,zH];simp[yI];omega⟩
 ·rw[qKN,if_pos (by decide)];simp[ifW,hx,jD,h3]
 ·simp only[List.mem_cons,List.not_mem_nil,or_false]at hw;rcases hw with rfl | rfl
  ·exact qKg hx
  ·decide
theorem qLg{t:qQ}{k:Nat}(h:PW wU 4 t k)(hk:t.kind=zM\/t.kind=qL):EW t k:=by
 refine⟨h.1,h.2.1,fun m hm=>?_⟩;obtain⟨ws,h1,h2,h3⟩:=h.2.2 m hm;refine⟨ws,?_,h2,h3⟩;rw[<-h1];cases t with
 | mk k x n l c ks =>
  rw[qX0];rcases hk with rfl | rfl <;> (rw[if_neg (by decide),if_neg (by decide),if_neg (by decide),if_neg (by decide),if_neg (by decide)])
theorem ew_num(t:Tok)(ht:qWC t)(hk:t.kind=1):EW (.mk zD [] t.num t.line t.col []) t.text.length/\PW (fun _=>qZy) 4 (.mk zD [] t.num t.line t.col []) t.text.length:=by
 obtain⟨h0,h1,h2⟩:=ht.num hk;have hne:=ht.ne (by rw[hk];decide);have hl:1<=t.text.length:=by cases hx:t.text with | nil=>exact absurd hx hne | cons b r=>simp
 have hN:qZl (.mk zD [] t.num t.line t.col []):=⟨by decide,by simp,h0,h1,by simp,trivial⟩;have hw:∀ w∈[Lib.decDigits t.num.toNat],kN w=true:=fun w hw=>by
  obtain rfl:w=_:=by simpa using hw
  exact word_dec _ (by omega)
 have hlen:yI [Lib.decDigits t.num.toNat]+4<=7 * t.text.length:=by simp[yI];omega
 have e:qZy (.mk zD [] t.num t.line t.col [])=some [Lib.decDigits t.num.toNat]:=by rw[qWZ];rfl
 refine⟨⟨qJC hl,hN,fun m _=>⟨_,?_,hw,hlen⟩⟩,⟨qJC hl,hN,fun m _=>⟨_,e,hw,hlen⟩⟩⟩;rw[qX0,if_neg (by decide),if_neg (by decide),if_neg (by decide),if_neg (by decide),if_pos (by decide),e]
theorem ew_true{x:List UInt8}(h:(x == zL || x == qH)=true)(ln co:Int):EW (.mk x [] 0 ln co []) x.length:=by
 simp only[Bool.or_eq_true,beq_iff_eq]at h;rcases h with rfl | rfl
 ·exact⟨qJC (by decide),⟨by decide,by simp,by decide,by decide,by simp,trivial⟩,fun m _=>⟨[zL],rfl,xI (by decide),by decide⟩⟩
 ·exact⟨qJC (by decide),⟨by decide,by simp,by decide,by decide,by simp,trivial⟩,fun m _=>⟨[qH],rfl,xI (by decide),by decide⟩⟩
theorem ew_unary{x:List UInt8}(h:qXD x=true)(ln co:Int){e:qQ}{k k':Nat}(he:EW e k)(hk:1+k<=k'):EW (.mk qT x 0 ln co [e]) k':=by
 have hx:x.length=1/\kN x=true:=by rcases qLj h with rfl | rfl | rfl <;> decide
 refine⟨qK1 (by have:=he.1;omega),⟨by decide,by omega,by decide,by decide,by simp,he.2.1,trivial⟩,fun m hm=>?_⟩;have hd:=yU (t:=e) (ks:=[e]) (by simp) qT x 0 ln co;obtain⟨ws,h3,h4,h5⟩:=he.operand (m:=m) (by omega);refine⟨[x]++ws,?_,jP (fun w hw=>by obtain rfl:w=x:=(by simpa using hw);exact hx.2) h4,by rw[zH];simp[yI];omega⟩;rw[qX0,if_neg (by decide),if_pos (by decide)];simp[ifW,h,jD,h3]
theorem ew_cast{x:List UInt8}(h:yG x=true)(ln co:Int){e:qQ}{k k':Nat}(he:EW e k)(hk:x.length+2+k<=k'):EW (.mk zK x 0 ln co [e]) k':=by
 obtain⟨hw,h1,h2⟩:=qXh h;refine⟨qK1 (by have:=he.1;omega),⟨by decide,by omega,by decide,by decide,by simp,he.2.1,trivial⟩,fun m hm=>?_⟩;have hd:=yU (t:=e) (ks:=[e]) (by simp) zK x 0 ln co;obtain⟨ws,h3,h4,h5⟩:=he.operand (m:=m) (by omega);refine⟨[[40],x,[41]]++ws,?_,jP (fun w hw'=>?_) h4,by rw[zH];simp[yI];omega⟩
 ·rw[qX0,if_neg (by decide),if_neg (by decide),if_pos (by decide)];simp[ifW,h,jD,h3]
 ·simp only[List.mem_cons,List.not_mem_nil,or_false]at hw';rcases hw' with rfl | rfl | rfl
  ·decide
  ·exact hw
  ·decide
theorem ew_binary{x:List UInt8}(h:0<=xL x)(ln co:Int){a b:qQ}{k1 k2 k':Nat}(ha:EW a k1)(hb:EW b k2)(hk:k1+x.length+k2<=k'):EW (.mk qM x 0 ln co [a,b]) k':=by
 obtain⟨hw,h1,h2⟩:=op_word h;refine⟨qY4 (by have:=ha.1;omega) (by have:=hb.1;omega),⟨by decide,by omega,by decide,by decide,by simp,ha.2.1,hb.2.1,trivial⟩,fun m hm=>?_⟩;have hd:=yU (t:=a) (ks:=[a,b]) (by simp) qM x 0 ln co;have hd2:=yU (t:=b) (ks:=[a,b]) (by simp) qM x 0 ln co;obtain⟨wa,h3,h4,h5⟩:=ha.operand (m:=m) (by omega);obtain⟨wb,h6,h7,h8⟩:=hb.operand (m:=m) (by omega);refine⟨wa++([x]++wb),?_,jP h4 (jP (fun w hw'=>by obtain rfl:w=x:=(by simpa using hw');exact hw) h7),by rw[zH,zH];simp[yI];omega⟩;rw[qX0,if_pos (by decide)];simp[ifW,h,jD,h3,h6]
abbrev BW:qQ->Nat->Prop:=PW qVv 0
theorem BW.rec{t:qQ}{k:Nat}(h:BW t k){m:Nat}(hm:vZ t<=m):∃ ws,qZB m .block t=some ws/\(∀ w∈ws,kN w=true)/\yI ws<=7 * k:=by
 have:=qJD t;obtain⟨j,rfl⟩:∃ j,m=j+1:=⟨m - 1,by omega⟩;exact h.2.2 j hm
theorem com_w{P:qQ->Nat->Prop}{g:qQ->Ws}(hp:∀ t k,P t k->∃ ws,g t=some ws/\(∀ w∈ws,kN w=true)/\yI ws+4<=7 * k):∀ {ts:List qQ} {k:Nat},PL P ts k->(∃ ws,qKp g ts=some ws/\(∀ w∈ws,kN w=true)/\yI ws<=7 * k)/\∃ ws,wO g ts=some ws/\(∀ w∈ws,kN w=true)/\yI ws<=7 * k
 | [],_,_=>⟨⟨[],rfl,fun w hw=>by simp at hw,by simp[yI]⟩,⟨[],rfl,fun w hw=>by simp at hw,by simp[yI]⟩⟩
 | t :: r,k,⟨k1,k2,h1,h2,h3⟩=>by
  obtain⟨wt,a1,a2,a3⟩:=hp t k1 h1;obtain⟨⟨wr,b1,b2,b3⟩,_⟩:=com_w hp h2;refine⟨⟨[[44]]++(wt++wr),by rw[qKp,a1,b1];rfl,jP (xI (by decide)) (jP a2 b2),by rw[zH,zH];simp[yI];omega⟩,⟨wt++wr,by rw[wO,a1,b1];rfl,jP a2 b2,by rw[zH];omega⟩⟩
theorem many_w{P:qQ->Nat->Prop}{g:qQ->Ws}:∀ {ts:List qQ} {k:Nat},PL P ts k->(∀ t∈ts,∀ k,P t k->∃ ws,g t=some ws/\(∀ w∈ws,kN w=true)/\yI ws<=7 * k)->∃ ws,qZP g ts=some ws/\(∀ w∈ws,kN w=true)/\yI ws<=7 * k
 | [],_,_,_=>⟨[],rfl,fun w hw=>by simp at hw,by simp[yI]⟩
 | t :: r,k,⟨k1,k2,h1,h2,h3⟩,hp=>by
  obtain⟨wt,a1,a2,a3⟩:=hp t (by simp) k1 h1;obtain⟨wr,b1,b2,b3⟩:=many_w h2 (fun u hu=>hp u (by simp[hu]));exact⟨wt++wr,by rw[qZP,a1,b1];rfl,jP a2 b2,by rw[zH];omega⟩
theorem PL.strip{P:qQ->Nat->Prop}:∀ {ts:List qQ} {K:Nat},PL (fun t k=>∃ k1,P t k1/\k1+1<=k) ts K->∃ k',PL P ts k'/\k'+ts.length<=K
 | [],_,_=>⟨0,trivial,by simp⟩
 | t :: r,K,⟨k1,k2,⟨k3,h1,h2⟩,h3,h4⟩=>by
  obtain⟨k',h5,h6⟩:=PL.strip h3;exact⟨k3+k',⟨k3,k',h1,h5,Nat.le_refl _⟩,by simp;omega⟩
theorem PL.neat{P:qQ->Nat->Prop}(hp:∀ t k,P t k->qZl t):∀ {ts:List qQ} {k:Nat},PL P ts k->qZn ts
 | [],_,_=>trivial
 | t :: r,_,⟨k1,k2,h1,h2,_⟩=>⟨hp t k1 h1,PL.neat hp h2⟩
theorem qUn{P:qQ->Nat->Prop}{p:List Tok->PR qQ}(n:Nat)(hp:∀ l,yT l->PI P l (p l)){l:List Tok}(hl:yT l):PI (fun ts k=>∃ k',PL P ts k'/\k'+ts.length+1<=k) l (xT n p l):=by
 unfold xT;refine(xB [40] hl).bind fun _ l1 k h1 _ h=>?_
 split
 ·exact(xB [41] h1).bind fun _ l2 k2 h2 _ h'=>PI.ok h2 ⟨0,trivial,by simp at h h' ⊢;omega⟩
 ·refine(hp l1 h1).bind fun t l2 k2 h2 _ ht=>?_
  refine(qWr (P:=fun t k=>∃ k1,P t k1/\k1+1<=k) (fun l' hl'=>(xB [44] hl').bind fun _ l3 k3 h3 _ h4=>(hp l3 h3).mono fun u k4 hu=>⟨k4,hu,by simp at h4;omega⟩) n [t] l2 (k2+1) h2 ⟨k2+1,0,⟨k2,ht,Nat.le_refl _⟩,trivial,Nat.le_refl _⟩).bind fun ts l3 k3 h3 _ hts=>?_
  obtain⟨k',h5,h6⟩:=hts.strip;exact(xB [41] h3).bind fun _ l4 k4 h4 _ h'=>PI.ok h4 ⟨k',h5,by simp at h h';omega⟩
theorem qJO(kind:List UInt8)(void:Bool){l:List Tok}(hl:yT l):PI (fun t k=>∃ x ln co ln' co',t=.mk kind x 0 ln co [.mk zB (hdT l).text 0 ln' co' []]/\(void=true\/yG (hdT l).text=true)/\jH x=true/\1<=x.length/\x.length<=65536/\(hdT l).text.length<=65536/\k=(hdT l).text.length+x.length) l (zG kind void l):=by
 unfold zG;refine(qQV hl).bind fun t l1 k h1 _ h=>?_
 obtain⟨rfl,hm,hok,rfl⟩:=h;refine(qQV h1).bind fun u l2 k2 h2 _ h'=>?_
 obtain⟨rfl,hn,hok2,rfl⟩:=h';obtain⟨hx,hx1⟩:=qUR hok2 hn;exact PI.ok h2 ⟨_,_,_,_,_,rfl,by simpa using hm,hx,hx1,hok2.len,hok.len,by omega⟩
theorem qUo{l:List Tok}(hl:yT l):PI (fun t k=>EW t k/\PW (fun _=>qZy) 4 t k) l (wQ l):=by
 unfold wQ;refine(qQV hl).bind fun t l1 k h1 _ h=>?_
 obtain⟨rfl,hm,hok,rfl⟩:=h;exact PI.ok h1 (ew_num _ hok (by simpa using hm))
section
variable {rec:NT->Int->List Tok->PR qQ} {n:Nat}
structure qKh(rec:NT->Int->List Tok->PR qQ):Prop where
 binary:∀ k d l,0<=k->yT l->PI EW l (rec (.binary k) d l)
 operand:∀ d l,yT l->PI EW l (rec .operand d l)
 block:∀ d l,yT l->PI BW l (rec .block d l)
theorem qUp(H:qKh rec)(d:Int){l:List Tok}(hl:yT l):PI (fun t k=>PW wU 4 t k/\(t.kind=zM\/t.kind=qL)) l (xF rec d l):=by
 unfold xF;refine(qQV hl).bind fun t l1 k h1 _ h=>?_
 obtain⟨rfl,hn,hok,rfl⟩:=h;obtain⟨hx,hx1⟩:=qUR hok hn;split
 ·refine(xB [91] h1).bind fun _ l2 k2 h2 _ h3=>?_
  refine(qZh (H.binary 0 (d+1) l2 (by decide) h2)).bind fun e l3 k3 h4 _ he=>?_
  exact(xB [93] h4).bind fun _ l4 k4 h5 _ h6=>PI.ok h5 ⟨ew_index hx hx1 hok.len _ _ he (by simp at h3 h6;omega), .inr rfl⟩
 ·exact PI.ok h1 ⟨ew_name hx hx1 hok.len _ _, .inl rfl⟩
theorem pi_paren (H : qKh rec) (d : Int) {l : List Tok} (hl : yT l) : PI EW l (yJ rec d l) := by
  unfold yJ
  refine (qQV hl).bind fun t l1 k h1 _ h => ?_
  obtain ⟨rfl, hm, hok, rfl⟩ := h
  have hx : (hdT l).text.length = 1 := by have : (hdT l).text = [40] := by simpa using hm
                                          rw [this]; rfl
  split
  · rename_i hty
    refine (qQV h1).bind fun u l2 k2 h2 _ h' => ?_
    obtain ⟨rfl, _, _, rfl⟩ := h'
    refine (xB [41] h2).bind fun _ l3 k3 h3 _ h4 => ?_
    exact (qZh (H.operand (d + 1) l3 h3)).bind fun e l4 k4 h5 _ he => PI.ok h5 (ew_cast hty _ _ he (by simp at h4; omega))
  · refine (qZh (H.binary 0 (d + 1) l1 (by decide) h1)).bind fun e l2 k2 h2 _ he => ?_
    exact (xB [41] h2).bind fun _ l3 k3 h3 _ h4 => PI.ok h3 (he.more (by omega))
theorem pi_operand(H:qKh rec)(d:Int){l:List Tok}(hl:yT l):PI EW l (jU rec d l):=by
 unfold jU;split
 ·exact(qUo hl).mono fun _ _ h=>h.1
 split
 ·rename_i hk;refine(qQV hl).bind fun u l1 k h1 _ h=>?_
  obtain⟨rfl,_,_,rfl⟩:=h;exact PI.ok h1 (ew_true hk _ _)
 split
 ·rename_i hu;refine(qQV hl).bind fun u l1 k h1 _ h=>?_
  obtain⟨rfl,_,_,rfl⟩:=h;have hx:(hdT l).text.length=1:=by rcases qLj hu with e | e | e <;> rw[e] <;> rfl
  exact(qZh (H.operand (d+1) l1 h1)).bind fun e l2 k2 h2 _ he=>PI.ok h2 (ew_unary hu _ _ he (by omega))
 split
 ·exact pi_paren H d hl
 ·exact(qUp H d hl).mono fun _ _ h=>qLg h.1 h.2
theorem qW3(H:qKh rec)(k d:Int)(hk:0<=k):∀ (m:Nat) (left:qQ) (l:List Tok) (k0:Nat),yT l->EW left k0->PI (fun t k1=>EW t (k0+k1)) l (kX rec k d m left l)
 | 0,_,_,_,_,_=>PI.o
 | m+1,left,l,k0,hl,he=>by
  rw[kX];split
  ·exact PI.ok hl he
  ·rename_i hlv;refine(qQV hl).bind fun t l1 k1 h1 _ h=>?_
   obtain⟨rfl,_,_,rfl⟩:=h;refine(H.binary _ d l1 (by omega) h1).bind fun r l2 k2 h2 _ hr=>?_
   exact(qW3 H k d hk m _ l2 (k0+(hdT l).text.length+k2) h2 (ew_binary (by omega) _ _ he hr (by omega))).mono fun t k3 h3=>by
    rw[show k0+((hdT l).text.length+(k2+k3))=k0+(hdT l).text.length+k2+k3 by omega];exact h3
theorem pi_binary(H:qKh rec)(k d:Int)(hk:0<=k){l:List Tok}(hl:yT l):PI EW l (qQy rec n k d l):=by
 unfold qQy;exact(H.operand d l hl).bind fun e l1 k1 h1 _ he=>qW3 H k d hk n e l1 k1 h1 he
theorem qWq(H:qKh rec)(d:Int){l:List Tok}(hl:yT l):PI EW l (qQh rec d l):=H.binary 0 d l (by decide) hl
theorem pi_call(H:qKh rec)(d:Int){l:List Tok}(hl:yT l):PI (PW qKY 0) l (qQz rec n d l):=by
 unfold qQz;refine(qQV hl).bind fun t l1 k h1 e1 h=>?_
 obtain⟨rfl,hn,hok,rfl⟩:=h;obtain⟨hx,hx1⟩:=qUR hok hn;refine(qUn n (fun l' hl'=>qZh (H.binary 0 (d+1) l' (by decide) hl')) h1).bind fun ts l2 k2 h2 e2 hts=>?_
 obtain⟨k',hpl,hk'⟩:=hts;have hch:=hl.2;have hlen:=hpl.len (fun t k h=>Nat.le_trans (qJD t) h.1);refine PI.ok h2 ⟨qVZ (by omega) (fun t ht=>by obtain⟨k1,h3,h4⟩:=hpl.memle t ht;have:=h3.1;omega),⟨by decide,by have:=hok.len;omega,by decide,by decide,by omega,hpl.neat fun t k h=>h.2.1⟩,fun m hm=>?_⟩;have hpl2:PL (fun t k=>EW t k/\vZ t<=m) ts k':=by
  have hall:∀ t∈ts,vZ t<=m:=fun t ht=>by have:=yU ht zW (hdT l).text 0 (hdT l).line (hdT l).col;omega
  have:∀ (ts:List qQ) (k:Nat),PL EW ts k->(∀ t∈ts,vZ t<=m)->PL (fun t k=>EW t k/\vZ t<=m) ts k:=by
   intro ts;induction ts with
   | nil=>intro k _ _;trivial
   | cons t r ih=>intro k ⟨a,b,h1,h2,h3⟩ hm;exact⟨a,b,⟨h1,hm t (by simp)⟩,ih b h2 (fun u hu=>hm u (by simp[hu])),h3⟩
  exact this ts k' hpl hall
 obtain⟨ws,a1,a2,a3⟩:=(com_w (g:=qZB m .expr) (fun t k h=>h.1.rec h.2) hpl2).2;refine⟨[(hdT l).text,[40]]++(ws++[[41]]),?_,jP (fun w hw=>?_) (jP a2 (xI (by decide))),by rw[zH,zH];simp[yI];omega⟩
 ·rw[qWJ,a1];simp[ifW,hx,jD]
 ·simp only[List.mem_cons,List.not_mem_nil,or_false]at hw;rcases hw with rfl | rfl
  ·exact qKg hx
  ·decide
end
abbrev SW:qQ->Nat->Prop:=PW qJr 0
section
variable {rec:NT->Int->List Tok->PR qQ} {n:Nat}
def GS(word:List UInt8)(t:qQ)(k:Nat):Prop:=∃ e b k1 k2 ln co,t=.mk word [] 0 ln co [e,b]/\EW e k1/\BW b k2/\k1+k2+3<=k
theorem qW4(H:qKh rec)(word:List UInt8)(hw:word≠[])(d:Int){l:List Tok}(hl:yT l):PI (GS word) l (jK rec word d l):=by
 unfold jK;refine(qW5 [word,[40]] (by simp[hw]) hl).bind fun _ l1 k h1 _ h=>?_
 refine(qWq H d h1).bind fun e l2 k2 h2 _ he=>?_
 refine(xB [41] h2).bind fun _ l3 k3 h3 _ h4=>?_
 exact(qZh (H.block (d+1) l3 h3)).bind fun b l4 k4 h5 _ hb=>PI.ok h5 ⟨e,b,k2,k4,_,_,rfl,he,hb,by simp at h h4;omega⟩
theorem qWX{word:List UInt8}(hw:kN word=true)(hl:word.length<=5){x:List UInt8}{m ln co:Int}{e b:qQ}{r:List qQ}{k1 k2:Nat}(he:EW e k1)(hb:BW b k2){j:Nat}(hj:vZ (.mk word x m ln co (e :: b :: r))<=j+1) :
 ∃ ws,qQi (qZB j) (.mk word x m ln co (e :: b :: r))=some ws/\(∀ w∈ws,kN w=true)/\yI ws<=7 * (k1+k2)+6:=by
 have hd:=yU (t:=e) (ks:=e :: b :: r) (by simp) word x m ln co;have hd2:=yU (t:=b) (ks:=e :: b :: r) (by simp) word x m ln co;obtain⟨we,a1,a2,a3⟩:=he.rec (m:=j) (by omega);obtain⟨wb,b1,b2,b3⟩:=hb.rec (m:=j) (by omega);refine⟨[word,[40]]++(we++([[41]]++wb)),?_,jP (fun w hw'=>?_) (jP a2 (jP (xI (by decide)) b2)),by rw[zH,zH,zH];simp[yI];omega⟩
 ·rw[qJH];simp[a1,b1,jD]
 ·simp only[List.mem_cons,List.not_mem_nil,or_false]at hw';rcases hw' with rfl | rfl
  ·exact hw
  ·decide
theorem pi_choice(H:qKh rec)(d:Int){l:List Tok}(hl:yT l):PI SW l (vF rec d l):=by
 unfold vF;refine(qW4 H kIf (by decide) d hl).bind fun t l1 k h1 _ h=>?_
 obtain⟨e,b,k1,k2,ln,co,rfl,he,hb,hk⟩:=h;split
 ·refine(xB zS h1).bind fun _ l2 k3 h2 _ h3=>?_
  refine(qZh (H.block (d+1) l2 h2)).bind fun c l3 k4 h4 _ hc=>PI.ok h4 ⟨(show vZ (.mk kIf [] 0 ln co [e,b,c])<=_ from deep3 (by have:=he.1;omega) (by have:=hb.1;omega) (by have:=hc.1;omega)),⟨by simp[qQ.kind,kIf],by simp[qQ.text],by simp[qQ.num],by simp[qQ.num],by simp[qQ.kids],he.2.1,hb.2.1,hc.2.1,trivial⟩,fun m hm=>?_⟩
  simp only[qQ.kind,qQ.text,qQ.num,qQ.line,qQ.col,qQ.kids,lC,lN]at hm ⊢;have hd:=yU (t:=c) (ks:=[e,b,c]) (by simp) kIf [] 0 ln co;obtain⟨wg,a1,a2,a3⟩:=qWX (word:=kIf) (by decide) (by decide) he hb hm;obtain⟨wc,b1,b2,b3⟩:=hc.rec (m:=m) (by omega);have hk3:k3=4:=h3;refine⟨wg++([zS]++wc),?_,jP a2 (jP (xI (by decide)) b2),by rw[zH,zH];simp[yI,zS];omega⟩;rw[wX,if_pos (by decide),qJb];simp[ifW,a1,b1,jD]
 ·refine PI.ok h1 ⟨qY4 (by have:=he.1;omega) (by have:=hb.1;omega),⟨by decide,by simp,by decide,by decide,by simp,he.2.1,hb.2.1,trivial⟩,fun m hm=>?_⟩;obtain⟨wg,a1,a2,a3⟩:=qWX (word:=kIf) (by decide) (by decide) he hb hm;refine⟨wg,?_,a2,by omega⟩;rw[wX,if_pos (by decide),qJb];simp[ifW,a1]
theorem pi_while(H:qKh rec)(d:Int){l:List Tok}(hl:yT l):PI SW l (jK rec qA d l):=by
 refine(qW4 H qA (by decide) d hl).mono fun t k h=>?_
 obtain⟨e,b,k1,k2,ln,co,rfl,he,hb,hk⟩:=h;refine⟨qY4 (by have:=he.1;omega) (by have:=hb.1;omega),⟨by decide,by simp,by decide,by decide,by simp,he.2.1,hb.2.1,trivial⟩,fun m hm=>?_⟩;obtain⟨wg,a1,a2,a3⟩:=qWX (word:=qA) (by decide) (by decide) he hb hm;refine⟨wg,?_,a2,by omega⟩;rw[wX,if_neg (by decide),if_pos (by decide)];simp[ifW,a1]
theorem pi_leave(H:qKh rec)(d:Int){l:List Tok}(hl:yT l):PI SW l (yC rec d l):=by
 unfold yC;refine(xB qV hl).bind fun _ l1 k h1 _ h=>?_
 have hk:k=6:=h;split
 ·refine(xB [59] h1).bind fun _ l2 k2 h2 _ h3=>PI.ok h2 ⟨qJC (by omega),⟨by decide,by simp,by decide,by decide,by simp,trivial⟩,fun m hm=>⟨[qV]++[]++[[59]],?_,xI (by decide),by simp[yI,qV];omega⟩⟩
  rw[wX,if_neg (by decide),if_neg (by decide),if_neg (by decide),if_neg (by decide),if_pos (by decide)];rfl
 ·refine(qWq H d h1).bind fun e l2 k2 h2 _ he=>?_
  refine(xB [59] h2).bind fun _ l3 k3 h3 _ h4=>PI.ok h3 ⟨qK1 (by have:=he.1;omega),⟨by decide,by simp,by decide,by decide,by simp,he.2.1,trivial⟩,fun m hm=>?_⟩
  have hd:=yU (t:=e) (ks:=[e]) (by simp) qV [] 0 (hdT l).line (hdT l).col;obtain⟨we,a1,a2,a3⟩:=he.rec (m:=m) (by omega);refine⟨[qV]++we++[[59]],?_,jP (jP (xI (by decide)) a2) (xI (by decide)),by rw[zH,zH];simp[yI,qV];omega⟩;rw[wX,if_neg (by decide),if_neg (by decide),if_neg (by decide),if_neg (by decide),if_pos (by decide)];simp[ifW,qQn,wO,qKp,a1,jD]
theorem pi_claim(H:qKh rec)(d:Int){l:List Tok}(hl:yT l)(hk:((hdT l).text == qF || (hdT l).text == qD)=true):PI SW l (kL rec d l):=by
 unfold kL;refine(qQV hl).bind fun t l1 k h1 _ h=>?_
 obtain⟨rfl,_,hok,rfl⟩:=h;have hf:(hdT l).text.length=6/\kN (hdT l).text=true/\((hdT l).text == kIf)=false/\((hdT l).text == qA)=false/\((hdT l).text == qE)=false/\((hdT l).text == zW)=false/\((hdT l).text == qV)=false:=by
  have hk':=hk;simp only[Bool.or_eq_true,beq_iff_eq]at hk';rcases hk' with e | e <;> rw[e] <;> decide
 obtain⟨f1,f2,f3,f4,f5,f6,f7⟩:=hf;refine(xB [40] h1).bind fun _ l2 k2 h2 _ h3=>?_
 refine(qWq H d h2).bind fun e l3 k3 h4 _ he=>?_
 refine(qW5 [[41],[59]] (by simp) h4).bind fun _ l4 k4 h5 _ h6=>PI.ok h5 ⟨qK1 (by have:=he.1;omega),⟨by omega,by simp,by decide,by decide,by simp,he.2.1,trivial⟩,fun m hm=>?_⟩
 have hd:=yU (t:=e) (ks:=[e]) (by simp) (hdT l).text [] 0 (hdT l).line (hdT l).col;obtain⟨we,a1,a2,a3⟩:=he.rec (m:=m) (by omega);refine⟨[(hdT l).text,[40]]++(we++[[41]])++[[59]],?_,jP (jP (fun w hw=>?_) (jP a2 (xI (by decide)))) (xI (by decide)),by rw[zH,zH,zH];simp[yI]at h3 h6 ⊢;omega⟩
 ·rw[wX,f3,f4,f5,f6,f7,hk,if_neg (by decide),if_neg (by decide),if_neg (by decide),if_neg (by decide),if_neg (by decide),if_pos rfl];simp[ifW,qQn,a1,jD]
 ·simp only[List.mem_cons,List.not_mem_nil,or_false]at hw;rcases hw with rfl | rfl
  ·exact f2
  ·decide
theorem qXm{kind tx x:List UInt8}(hx:jH x=true)(void:Bool)(ht:yG tx=true\/void=true/\tx=zA)(m ln co ln' co':Int)(r:List qQ) :
 vY void (.mk kind x m ln co (.mk zB tx 0 ln' co' [] :: r))=some [tx,x]/\(∀ w∈[tx,x],kN w=true)/\2<=tx.length/\tx.length<=4:=by
 have hw:kN tx=true/\2<=tx.length/\tx.length<=4:=by
  rcases ht with h | ⟨_,rfl⟩
  ·exact qXh h
  ·decide
 refine⟨?_,fun w hw'=>?_,hw.2⟩
 ·rw[qUJ];rcases ht with h | ⟨rfl,rfl⟩
  ·simp[ifW,qQ.kind,qQ.num,qQ.kids,qQ.text,h]
  ·simp[ifW,qQ.kind,qQ.num,qQ.kids,qQ.text]
 ·simp only[List.mem_cons,List.not_mem_nil,or_false]at hw';rcases hw' with rfl | rfl
  ·exact hw.1
  ·exact qKg hx
theorem pi_local{l:List Tok}(hl:yT l):PI SW l (qQM l):=by
 unfold qQM;refine(qJO qE false hl).bind fun t l1 k h1 _ h=>?_
 obtain⟨x,ln,co,ln',co',rfl,hty,hx,hx1,hx2,hx3,rfl⟩:=h;have ht:yG (hdT l).text=true:=by rcases hty with h | h;cases h;exact h
 refine(xB [59] h1).bind fun _ l2 k2 h2 _ h3=>PI.ok h2 ⟨qK1 (by have hty2:=(qXh ht).2.1;have:=qJC (k:=zB) (x:=(hdT l).text) (n:=0) (l:=ln') (c:=co') (j:=1) (by omega);omega),⟨by decide,by omega,by decide,by decide,by simp,⟨by decide,by omega,by decide,by decide,by simp,trivial⟩,trivial⟩,fun m hm=>?_⟩
 obtain⟨a1,a2,a3,a4⟩:=qXm (kind:=qE) hx false (.inl ht) 0 ln co ln' co' [];refine⟨[(hdT l).text,x]++[[59]],?_,jP a2 (xI (by decide)),by rw[zH];simp[yI];omega⟩;rw[wX,if_neg (by decide),if_neg (by decide),if_pos (by decide),a1];simp[ifW,hx,qQn,jD]
theorem pi_action(H:qKh rec)(d:Int){l:List Tok}(hl:yT l):PI SW l (jJ rec n d l):=by
 unfold jJ;split
 ·refine(pi_call H d hl).bind fun t l1 k h1 _ h=>?_
  refine(xB [59] h1).bind fun _ l2 k2 h2 _ h3=>PI.ok h2 ⟨by have:=h.1;omega,h.2.1,fun m hm=>?_⟩
  obtain⟨ws,a1,a2,a3⟩:=h.2.2 m hm;refine⟨ws++[[59]],?_,jP a2 (xI (by decide)),by rw[zH];simp[yI]at h3 ⊢;omega⟩;obtain⟨k0,x,nm,ln,co,ks⟩:=t;have hkc:k0=zW:=by
   rw[qWJ]at a1;have:=(zN a1).1;simp only[bE,beq_iff_eq]at this;exact this.1
  subst hkc;rw[wX,if_neg (by decide),if_neg (by decide),if_neg (by decide),if_pos (by decide),a1];rfl
 ·refine(qUp H d hl).bind fun x l1 k h1 _ hx=>?_
  refine(xB [61] h1).bind fun _ l2 k2 h2 _ h3=>?_
  have hk2:k2=1:=h3;split
  ·refine(qW5 [qW,[40],[41]] (by decide) h2).bind fun _ l3 k3 h4 _ h5=>?_
   refine(xB [59] h4).bind fun _ l4 k4 h6 _ h7=>PI.ok h6 ⟨qK1 (by have:=hx.1.1;omega),⟨by decide,by simp,by decide,by decide,by simp,hx.1.2.1,trivial⟩,fun m hm=>?_⟩
   have hd:=yU (t:=x) (ks:=[x]) (by simp) qW [] 0 (hdT l).line (hdT l).col;obtain⟨wx,a1,a2,a3⟩:=hx.1.2.2 m (by omega);refine⟨wx++[[61],qW,[40],[41]]++[[59]],?_,jP (jP a2 (xI (by decide))) (xI (by decide)),by rw[zH,zH];simp[yI,qW]at h5 ⊢;omega⟩;rw[wX,if_neg (by decide),if_neg (by decide),if_neg (by decide),if_neg (by decide),if_neg (by decide),if_neg (by decide),qK7];simp[ifW,qQn,a1,jD]
  split
  ·refine(pi_call H d h2).bind fun y l3 k3 h4 _ hy=>?_
   refine(xB [59] h4).bind fun _ l4 k4 h6 _ h7=>PI.ok h6 ⟨qY4 (by have:=hx.1.1;omega) (by have:=hy.1;omega),⟨by decide,by simp,by decide,by decide,by simp,hx.1.2.1,hy.2.1,trivial⟩,fun m hm=>?_⟩
   have hd:=yU (t:=x) (ks:=[x,y]) (by simp) qN [] 0 (hdT l).line (hdT l).col;have hd2:=yU (t:=y) (ks:=[x,y]) (by simp) qN [] 0 (hdT l).line (hdT l).col;obtain⟨wx,a1,a2,a3⟩:=hx.1.2.2 m (by omega);obtain⟨wy,b1,b2,b3⟩:=hy.2.2 m (by omega);refine⟨wx++([[61]]++wy)++[[59]],?_,jP (jP a2 (jP (xI (by decide)) b2)) (xI (by decide)),by rw[zH,zH,zH];simp[yI]at h7 ⊢;omega⟩;rw[wX,if_neg (by decide),if_neg (by decide),if_neg (by decide),if_neg (by decide),if_neg (by decide),if_neg (by decide),qK7];simp[ifW,qQn,a1,b1,jD,show(qN == qP)=false by decide]
  ·refine(qWq H d h2).bind fun y l3 k3 h4 _ hy=>?_
   refine(xB [59] h4).bind fun _ l4 k4 h6 _ h7=>PI.ok h6 ⟨qY4 (by have:=hx.1.1;omega) (by have:=hy.1;omega),⟨by decide,by simp,by decide,by decide,by simp,hx.1.2.1,hy.2.1,trivial⟩,fun m hm=>?_⟩
   have hd:=yU (t:=x) (ks:=[x,y]) (by simp) qP [] 0 (hdT l).line (hdT l).col;have hd2:=yU (t:=y) (ks:=[x,y]) (by simp) qP [] 0 (hdT l).line (hdT l).col;obtain⟨wx,a1,a2,a3⟩:=hx.1.2.2 m (by omega);obtain⟨wy,b1,b2,b3⟩:=hy.rec (m:=m) (by omega);refine⟨wx++([[61]]++wy)++[[59]],?_,jP (jP a2 (jP (xI (by decide)) b2)) (xI (by decide)),by rw[zH,zH,zH];simp[yI]at h7 ⊢;omega⟩;rw[wX,if_neg (by decide),if_neg (by decide),if_neg (by decide),if_neg (by decide),if_neg (by decide),if_neg (by decide),qK7];simp[ifW,qQn,a1,b1,jD]
theorem pi_stmt(H:qKh rec)(d:Int){l:List Tok}(hl:yT l):PI SW l (qQA rec n d l):=by
 unfold qQA;split
 ·exact pi_choice H d hl
 split
 ·exact pi_while H d hl
 split
 ·exact pi_leave H d hl
 split
 ·rename_i hk;exact pi_claim H d hl hk
 split
 ·exact pi_local hl
 ·exact pi_action H d hl
theorem qUT{P:qQ->Nat->Prop}{j:Nat}:∀ (ts:List qQ) (k:Nat),PL P ts k->(∀ t∈ts,vZ t<=j)->PL (fun t k=>P t k/\vZ t<=j) ts k
 | [],_,_,_=>trivial
 | t :: r,_,⟨a,b,h1,h2,h3⟩,hm=>⟨a,b,⟨h1,hm t (by simp)⟩,qUT r b h2 (fun u hu=>hm u (by simp[hu])),h3⟩
theorem pi_block(H:qKh rec)(d:Int){l:List Tok}(hl:yT l):PI BW l (qQK rec n d l):=by
 unfold qQK;refine(xB [123] hl).bind fun _ l1 k h1 e1 h=>?_
 refine(qWr (fun l' hl'=>pi_stmt H d hl') n [] l1 0 h1 trivial).bind fun ts l2 k2 h2 e2 hts=>?_
 refine(xB [125] h2).bind fun _ l3 k3 h3 _ h4=>?_
 have hch:=hl.2;have hn:=hts.len (fun t k h=>Nat.le_trans (qJD t) h.1);have hk:k=1:=h;have hk3:k3=1:=h4;refine PI.ok h3 ⟨qVZ (by omega) (fun t ht=>by obtain⟨k1,h3,h4⟩:=hts.memle t ht;have:=h3.1;omega),⟨by decide,by simp,by decide,by decide,by omega,hts.neat fun t k h=>h.2.1⟩,fun m hm=>?_⟩;obtain⟨ws,a1,a2,a3⟩:=many_w (g:=qJr (qZB m)) (qUT (j:=m) ts _ hts (fun t ht=>by have:=yU ht zX [] 0 (hdT l).line (hdT l).col;omega)) (fun t _ k h=>by
  obtain⟨ws,c1,c2,c3⟩:=h.1.2.2 m (by have:=h.2;omega);exact⟨ws,c1,c2,by omega⟩)
 refine⟨[[123]]++(ws++[[125]]),?_,jP (xI (by decide)) (jP a2 (xI (by decide))),by rw[zH,zH];simp[yI];omega⟩;rw[qYY,a1];rfl
end
theorem qVj:∀ n,qKh (qQd n)
 | 0=>⟨fun _ _ _ _ _=>PI.o,fun _ _ _=>PI.o,fun _ _ _=>PI.o⟩
 | n+1=>⟨fun k d l hk hl=>pi_binary (qVj n) k d hk hl,fun d l hl=>pi_operand (qVj n) d hl,fun d l hl=>pi_block (qVj n) d hl⟩
theorem fn_mk(rec:WT->qQ->Ws)(k x:List UInt8)(m ln co:Int)(u b:qQ)(ps:List qQ):kA rec (.mk k x m ln co (u :: (ps++[b])))=ifW (jH x && m == 0) (jD (vY true (.mk k x m ln co (u :: (ps++[b])))) (jD (some [[40]]) (jD (wO qZ1 ps) (jD (some [[41]]) (rec .block b))))):=by
 cases ps with
 | nil=>rw[lN,qK6];rfl
 | cons p r =>
  rw[lC,qK6];have h1:(p :: (r++[b])).dropLast=p :: r:=by rw[<-lC,List.dropLast_concat]
  have h2:(p :: (r++[b])).getLast (List.cons_ne_nil p (r++[b]))=b:=by
   have:=List.getLast_concat (a:=b) (l:=p :: r);exact this
  show ifW (jH x && m == 0) (jD (vY true (.mk k x m ln co (u :: p :: (r++[b])))) (jD (some [[40]]) (jD (wO qZ1 ((p :: (r++[b])).dropLast)) (jD (some [[41]]) (rec .block ((p :: (r++[b])).getLast (List.cons_ne_nil p (r++[b]))))))))=_
  rw[h1,h2]
def qPL(rec:WT->qQ->Ws)(t:qQ):Ws:=if t.kind == qC then kA rec t else qXa t
abbrev IW:qQ->Nat->Prop:=PW qPL 0
theorem pi_param{l:List Tok}(hl:yT l):PI (PW (fun _=>qZ1) 4) l (zG qO false l):=by
 refine(qJO qO false hl).mono fun t k h=>?_
 obtain⟨x,ln,co,ln',co',rfl,hty,hx,hx1,hx2,hx3,rfl⟩:=h;have ht:yG (hdT l).text=true:=by rcases hty with h | h;cases h;exact h
 obtain⟨a1,a2,a3,a4⟩:=qXm (kind:=qO) hx false (.inl ht) 0 ln co ln' co' [];refine⟨qK1 (by have hty2:=(qXh ht).2.1;have:=qJC (k:=zB) (x:=(hdT l).text) (n:=0) (l:=ln') (c:=co') (j:=1) (by omega);omega),⟨by decide,by omega,by decide,by decide,by simp,⟨by decide,by omega,by decide,by decide,by simp,trivial⟩,trivial⟩,fun m hm=>⟨_,?_,a2,by simp[yI];omega⟩⟩;show qZ1 (.mk qO x 0 ln co [.mk zB (hdT l).text 0 ln' co' []])=_
 rw[paramW_mk,a1];simp[ifW,hx]
theorem pi_item(n:Nat){l:List Tok}(hl:yT l):PI IW l (qZe n l):=by
 unfold qZe;refine(qJO qG _ hl).bind fun t l1 k h1 e1 h=>?_
 obtain⟨x,ln,co,ln',co',rfl,hty,hx,hx1,hx2,hx3,hk⟩:=h;have htv:yG (hdT l).text=true\/true=true/\(hdT l).text=zA:=by
  rcases hty with h | h
  ·exact .inr ⟨rfl,by simpa using h⟩
  ·exact .inl h
 have hch:=hl.2;split
 ·refine(qUn n (fun l' hl'=>pi_param hl') h1).bind fun ps l2 k2 h2 e2 hps=>?_
  obtain⟨k',hpl,hk'⟩:=hps;refine(qZh ((qVj n).block (0+1) l2 h2)).bind fun b l3 k3 h3 _ hb=>?_
  obtain⟨a1,a2,a3,a4⟩:=qXm (kind:=qC) hx true htv 0 ln co ln' co' (ps++[b]);have hty0:vZ (.mk zB (hdT l).text 0 ln' co' [])<=1:=qJC (by omega);refine PI.ok h3 ⟨(show vZ (.mk qC x 0 ln co ([.mk zB (hdT l).text 0 ln' co' []]++ps++[b]))<=_ from qVZ (by omega) (fun t ht=>by
   simp only[lC,lN,List.mem_cons,List.mem_append,List.not_mem_nil,or_false]at ht;rcases ht with rfl | ht | rfl
   ·omega
   ·obtain⟨j1,j2,j3⟩:=hpl.memle t ht;have:=j2.1;omega
   ·have:=hb.1;omega)),⟨by simp[qQ.kind,qC],by simp only[qQ.text];omega,by simp[qQ.num],by simp[qQ.num],by simp[qQ.kids];omega,?_⟩,fun m hm=>?_⟩
  ·simp only[qQ.kids,lC,lN];refine⟨⟨by decide,by omega,by decide,by decide,by simp,trivial⟩,qZn.of fun t ht=>?_⟩;rcases List.mem_append.1 ht with h | h
   ·exact qZn.mem (hpl.neat fun t k h=>h.2.1) t h
   ·obtain rfl:t=b:=by simpa using h
    exact hb.2.1
  ·simp only[qQ.text,qQ.num,qQ.line,qQ.col,qQ.kids,lC,lN]at hm ⊢;have hd:=yU (t:=b) (ks:=.mk zB (hdT l).text 0 ln' co' [] :: (ps++[b])) (by simp) qC x 0 ln co;obtain⟨wb,b1,b2,b3⟩:=hb.rec (m:=m) (by omega);obtain⟨wc,c1,c2,c3⟩:=(com_w (g:=qZ1) (fun t k h=>h.2.2 (vZ t) (by omega)) hpl).2;refine⟨[(hdT l).text,x]++([[40]]++(wc++([[41]]++wb))),?_,jP a2 (jP (xI (by decide)) (jP c2 (jP (xI (by decide)) b2))),by rw[zH,zH,zH,zH];simp[yI];omega⟩;rw[qPL,if_pos (by rfl),fn_mk,a1,b1,c1];simp[ifW,hx,jD]
 split
 ·rename_i hnf _;have ht:yG (hdT l).text=true:=by
   rcases hty with h | h
   ·simp only[Bool.or_eq_true,not_or]at hnf;exact absurd h hnf.1
   ·exact h
  refine(xB [91] h1).bind fun _ l2 k2 h2 _ h3=>?_
  refine(qUo h2).bind fun m0 l3 k3 h4 _ hm0=>?_
  refine(xB [93] h4).bind fun _ l4 k4 h5 _ h6=>?_
  refine(xB [59] h5).bind fun _ l5 k5 h7 _ h8=>PI.ok h7 ⟨(show vZ (.mk qG x 0 ln co [.mk zB (hdT l).text 0 ln' co' [],m0])<=_ from qY4 (by have hty2:=(qXh ht).2.1;have:=qJC (k:=zB) (x:=(hdT l).text) (n:=0) (l:=ln') (c:=co') (j:=1) (by omega);omega) (by have:=hm0.1.1;omega)),⟨by simp[qQ.kind,qG],by simp only[qQ.text];omega,by simp[qQ.num],by simp[qQ.num],by simp[qQ.kids],⟨by decide,by omega,by decide,by decide,by simp,trivial⟩,hm0.1.2.1,trivial⟩,fun m hm=>?_⟩
  obtain⟨a1,a2,a3,a4⟩:=qXm (kind:=qG) hx false (.inl ht) 0 ln co ln' co' [m0];obtain⟨wn,b1,b2,b3⟩:=hm0.2.2.2 (vZ m0) (by omega);have j1:k2=1:=h3;have j2:k4=1:=h6;have j3:k5=1:=h8;refine⟨([(hdT l).text,x]++([[91]]++(wn++[[93]])))++[[59]],?_,jP (jP a2 (jP (xI (by decide)) (jP b2 (xI (by decide))))) (xI (by decide)),by rw[zH,zH,zH,zH];simp[yI];omega⟩;simp only[qQ.kind,qQ.text,qQ.num,qQ.line,qQ.col,qQ.kids,lC,lN];rw[qPL,if_neg (by simp only[qQ.kind];decide),qKF,a1];have b1':qZy m0=some wn:=b1;simp[ifW,hx,qQn,jD,b1']
 ·rename_i hnf _;have ht:yG (hdT l).text=true:=by
   rcases hty with h | h
   ·simp only[Bool.or_eq_true,not_or]at hnf;exact absurd h hnf.1
   ·exact h
  refine(xB [59] h1).bind fun _ l5 k5 h7 _ h8=>PI.ok h7 ⟨qK1 (by have hty2:=(qXh ht).2.1;have:=qJC (k:=zB) (x:=(hdT l).text) (n:=0) (l:=ln') (c:=co') (j:=1) (by omega);omega),⟨by decide,by omega,by decide,by decide,by simp,⟨by decide,by omega,by decide,by decide,by simp,trivial⟩,trivial⟩,fun m hm=>?_⟩
  obtain⟨a1,a2,a3,a4⟩:=qXm (kind:=qG) hx false (.inl ht) 0 ln co ln' co' [];have j3:k5=1:=h8;refine⟨[(hdT l).text,x]++[[59]],?_,jP a2 (xI (by decide)),by rw[zH];simp[yI];omega⟩;rw[qPL,if_neg (by simp only[qQ.kind];decide),qKF,a1];simp[ifW,hx,qQn,jD]
theorem prog_words(n:Nat)(l:List Tok)(hl:yT l)(t:qQ)(l':List Tok)(h:xW n l=.ok t l') :
 qZl t/\vZ t<=ch l+1/\∃ ws,qQO (vZ t) t=some ws/\(∀ w∈ws,kN w=true)/\yI ws<=7 * ch l:=by
 have key:PI (fun t k=>qZl t/\vZ t<=k+1/\∃ ws,qQO (vZ t) t=some ws/\(∀ w∈ws,kN w=true)/\yI ws<=7 * k) l (xW n l):=by
  unfold xW;refine(qWr (fun l' hl'=>pi_item n hl') n [] l 0 hl trivial).bind fun ts l1 k h1 e1 hts=>?_
  have hch:=hl.2;have hn:=hts.len (fun t k h=>Nat.le_trans (qJD t) h.1);refine PI.ok h1 ⟨⟨by decide,by simp,by decide,by decide,by omega,hts.neat fun t k h=>h.2.1⟩,qVZ (by omega) (fun t ht=>by obtain⟨k1,h3,h4⟩:=hts.memle t ht;have:=h3.1;omega),?_⟩;obtain⟨ws,a1,a2,a3⟩:=many_w (g:=qPL (qZB (vZ (.mk qY [] 0 (hdT l).line (hdT l).col ts)))) (qUT (j:=vZ (.mk qY [] 0 (hdT l).line (hdT l).col ts)) ts _ hts (fun t ht=>by have:=yU ht qY [] 0 (hdT l).line (hdT l).col;omega)) (fun t _ k h=>by
   obtain⟨ws,c1,c2,c3⟩:=h.1.2.2 (vZ (.mk qY [] 0 (hdT l).line (hdT l).col ts)) (by have:=h.2;omega);exact⟨ws,c1,c2,by omega⟩)
  refine⟨ws,?_,a2,by omega⟩;rw[qV9,show(qZP (fun k=>if k.kind == qC then kA (qZB (vZ (.mk qY [] 0 (hdT l).line (hdT l).col ts))) k else qXa k) ts)=some ws from a1];rfl
 obtain⟨_,k,h1,h2,hd,ws,h3,h4,h5⟩:=key t l' h;exact⟨h2,by omega,ws,h3,h4,by omega⟩
end Go.Proofs.YtiajhekdhhhghaaGreatDoor
