/- Walks. -/
import Derived.Test.YtiajhekdhhhghaaGreatDoorNal
set_option linter.all false
set_option maxHeartbeats 8000000
set_option maxRecDepth 100000
namespace Go.Proofs.YtiajhekdhhhghaaGreatDoor
open Tryz Go.Proofs.Tryz
open Go Go.RowKit
def qQ9(p:CR PrD)(w:World)(e:Ending)(w':World):Prop :=
 match p with
 | .ok r=>∃ v,e=.returned (.tuple #[v, .int .i64 0, .int .i64 0, .int .i64 0])/\qZ2 w.1.size r v w'/\Below w.1.size w w'
 | .bad ln co code=>e=.returned (.tuple #[qZX, .int .i64 ln, .int .i64 co, .int .i64 code])/\Below w.1.size w w'
theorem qQ9.okI{p:CR PrD}{r:PrD}{w w':World}{v:Value}(hp:p=.ok r)(h:qZ2 w.1.size r v w')(hb:Below w.1.size w w'):qQ9 p w (.returned (.tuple #[v, .int .i64 0, .int .i64 0, .int .i64 0])) w':=by
 rw[hp];exact⟨v,rfl,h,hb⟩
theorem qQ9.badI{p:CR PrD}{w w':World}{ln co code:Int}(hp:p=.bad ln co code)(hb:Below w.1.size w w'):qQ9 p w (.returned (.tuple #[qZX, .int .i64 ln, .int .i64 co, .int .i64 code])) w':=by
 rw[hp];exact⟨rfl,hb⟩
theorem qQ9.cases{p:CR PrD}{w w':World}{e:Ending}(h:qQ9 p w e w') :
 (∃ r v,p=.ok r/\e=.returned (.tuple #[v, .int .i64 0, .int .i64 0, .int .i64 0])/\qZ2 w.1.size r v w'/\Below w.1.size w w')\/∃ ln co code,p=.bad ln co code/\e=.returned (.tuple #[qZX, .int .i64 ln, .int .i64 co, .int .i64 code])/\Below w.1.size w w':=by
 cases p with
 | ok r=>obtain⟨v,j,h2,h3⟩:=h;exact .inl ⟨r,v,rfl,j,h2,h3⟩
 | bad ln co code=>exact .inr ⟨ln,co,code,rfl,h.1,h.2⟩
theorem qZZ.cases{p:CR PrD}{w w':World}{e:Ending}(h:qZZ p w e w') :
 (∃ r v,p=.ok r/\e=.returned (.tuple #[v, .agg #[.int .i64 0, .int .i64 0, .int .i64 0]])/\qZ2 w.1.size r v w'/\Below w.1.size w w')\/∃ ln co code,p=.bad ln co code/\e=.returned (.tuple #[qZX, .agg #[.int .i64 ln, .int .i64 co, .int .i64 code]])/\Below w.1.size w w':=by
 cases p with
 | ok r=>obtain⟨v,j,h2,h3⟩:=h;exact .inl ⟨r,v,rfl,j,h2,h3⟩
 | bad ln co code=>exact .inr ⟨ln,co,code,rfl,h.1,h.2⟩
theorem qZ2.shape{lo:Nat}{p:PrD}{v:Value}{w:World}(h:qZ2 lo p v w):∃ z y s fc,v=.agg #[.slice z p.globals.length y, .slice s p.funcs.length fc, .int .i64 p.main]:=by
 obtain⟨fs,G,gv,fv,rfl,J,h2,h3,h4,O,_⟩:=h;have C:p.funcs.length=fs.length:=by rw[h4,qVf fs G (by omega),O]
 have I:∃ q c,gv=.slice q p.globals.length c:=by
  rcases J.2 with⟨rfl,A⟩ | ⟨g,j,o,rfl,_⟩
  ·exact⟨none,0,by rw[A]⟩
  ·exact⟨_,_,rfl⟩
 have e2:∃ q c,fv=.slice q p.funcs.length c:=by
  rw[C];rcases h2.2 with⟨rfl,A⟩ | ⟨g,j,o,rfl,_⟩
  ·exact⟨none,0,by rw[A]⟩
  ·exact⟨_,_,rfl⟩
 obtain⟨z,y,rfl⟩:=I;obtain⟨s,fc,rfl⟩:=e2;exact⟨z,y,s,fc,rfl⟩
theorem qZ2.move{lo lo':Nat}{p:PrD}{v:Value}{w w':World}{P:Nat}(h:qZ2 lo p v w)(I:jX w P 30)(hlo:P < lo/\lo'<=lo)(y:∀ k,k < w.1.size->k≠P->w'.1[k]? = w.1[k]?):qZ2 lo' p v w':=by
 have s:∀ {b S},jX w b S->S≠30->w'.1[b]? = w.1[b]?:=fun k o=>y _ k.lt (k.ne I o)
 obtain⟨fs,z,gv,fv,e,o,h2,h3,h4,A,C,G⟩:=h;exact⟨fs,z,gv,fv,e,zU o (fun g hg=>s (zE o hg) (by decide)),zU h2 (fun g hg=>s (zE h2 hg) (by decide)),fun f hf=>zU (h3 f hf) (fun g hg=>s (zE (h3 f hf) hg) (by decide)),h4,A,fun j hj=>jE.move (C j hj) (fun g hg hok=>⟨⟨by omega,hok.2⟩,y g hg (by omega)⟩),G⟩
theorem qLY(n:Nat)(t:qQ)(v:Value)(w:World)(ws:List (List UInt8))(hc:qYA w)(h4:qWB w)(hl:xZ w (· < w.1.size) t v)(hN:qZl t)(he:qQO n t=some ws)(G:ws.length<=900000)(d3:(qUv ws).length<=140737488355328) :
 Calls prog 22 #[qZ t v] w (qQ9 (qZb t) w):=by
 obtain⟨J,O,rfl,_,_⟩:=hl.shape;have ho:PgOk t:=pg_of he hN G;have ha:=bal (Below.refl w.1.size w) (qB t (.slice J t.kids.length O));have hp:=qKx.new (w.alloc (qB t (.slice J t.kids.length O)));have X:=jX.new (w.alloc (qB t (.slice J t.kids.length O))) #[.slice none 0 0, .slice none 0 0, .int .i64 0] 30;have hb:=ha.trans ((bal (Below.refl _ (w.alloc (qB t (.slice J t.kids.length O)))) (.cells #[.slice none 0 0, .slice none 0 0, .int .i64 0] 30)).mono ha.size);have hn:=(Hn.new t (.slice J t.kids.length O) w).below (bal (Below.refl _ (w.alloc (qB t (.slice J t.kids.length O)))) (.cells #[.slice none 0 0, .slice none 0 0, .int .i64 0] 30));have d2:=show_any n t (.slice J t.kids.length O) _ ws (h4.below hb) (xZ.move (fun g hg hok=>⟨Nat.lt_of_lt_of_le hg hb.size,hb.block g hg⟩) t _ hl) hN he (by omega) d3;have V:=hI d2;have HB:=hI hb;have HN:=hI hn;have HP:=hI hp;have HK:=hI X;have HC:=hI (fun(W:World) (h:Below w.1.size w W)=>qUH t (.slice J t.kids.length O) W (hc.below h) (xZ.move (fun g hg hok=>⟨Nat.lt_of_lt_of_le hg h.size,h.block g hg⟩) t _ hl) ho);clear hc h4 hl hN he ho ha hb hn d2 hp G d3 X;generalize qZb t=p at *;simp only[qS,qZ,qB]at *;go_enter func22,ntmps22
 go_wp2_with fail
 refine(V.o).mono ?_;rintro e w3 ⟨rfl,hb3⟩;have z:=hI (HB.o.trans (hb3.mono HB.o.size));have hs3:=hb3.size;have N3:=HN.o.below hb3;have U:=hI (HP.o.turn (hb3.block _ (by simp)));have K3:=HK.o.turn (hb3.block _ (by simp));rw[World.size_alloc]at K3;have K3:=hI K3;obtain⟨c0,c1,c2,c3,c4,c5⟩:=N3.cells;have d5:=N3.lt;have R:=hI (HC.o w3 z.o);clear hb3 V HC HB HN HP HK;have I:w.1.size+1 < w3.1.size:=by simp at hs3;omega
 go_wp2_with fail
 refine(R.o).mono ?_;intro e y hq;rcases hq.cases with⟨r,v,rfl,rfl,hr,hb4⟩ | ⟨ln,co,code,rfl,rfl,hb4⟩
 ·obtain⟨gq,gc,fq,fc,rfl⟩:=hr.shape;have HR:=hI hr;have A:=hI (z.o.trans (hb4.mono z.o.size));have K4:=hI (K3.o.turn (hb4.block _ I));have C:=U.o.turn (hb4.block _ (qJ U.o.c0));rw[World.size_alloc]at C;have⟨r0,r1,r2,_⟩:=C.a;have⟨g0,g1,g2,_⟩:=C.b;have j:=qJ r0;clear hq hr hb4 C R U;simp only at j;have s:=(bal (Below.refl y.1.size y) (.cells #[.slice gq r.globals.length gc, .slice fq r.funcs.length fc, .int .i64 r.main] 30)).trans ((bal (Below.refl _ (y.alloc (.cells #[.slice gq r.globals.length gc, .slice fq r.funcs.length fc, .int .i64 r.main] 30))) (.cells #[.int .i64 0, .int .i64 0, .int .i64 0] 97)).mono (by simp));have z0:=(s.cell (p:=⟨w.1.size+1,0,none⟩) j).trans r0;have z1:=(s.cell (p:=⟨w.1.size+1,1,none⟩) j).trans r1;have z2:=(s.cell (p:=⟨w.1.size+1,2,none⟩) j).trans r2;have f0:=(s.frozen (p:=⟨w.1.size+1,0,none⟩) j).trans g0;have f1:=(s.frozen (p:=⟨w.1.size+1,1,none⟩) j).trans g1;have f2:=(s.frozen (p:=⟨w.1.size+1,2,none⟩) j).trans g2;have HA:=hI s;have d4:¬w.1.size+1=y.1.size:=by omega
  have Y:¬w.1.size=y.1.size:=by omega
  have Z:¬y.1.size=w.1.size+1:=by omega
  clear s;go_wp2
  go_region
  go_wp2
  refine bodyPost_ret (v:=.tuple #[.agg #[.slice gq r.globals.length gc, .slice fq r.funcs.length fc, .int .i64 r.main], .int .i64 0, .int .i64 0, .int .i64 0]) (by simp[results,results22,go_sem, *]) rfl ?_;refine qQ9.okI rfl (HR.o.move K4.o ⟨I,by omega⟩ fun k hk hne4=>?_) (jR (jR (jR (A.o.trans (HA.o.mono A.o.size)) (by omega) _) (by omega) _) (by omega) _).drew;show(World.setCell _ _ _).1[k]? = _
  rw[hS _ _ _ _ hne4,hS _ _ _ _ hne4,hS _ _ _ _ hne4];exact HA.o.block k hk
 ·have A:=hI (z.o.trans (hb4.mono z.o.size));have C:=U.o.turn (hb4.block _ (qJ U.o.c0));rw[World.size_alloc]at C;have⟨r0,r1,r2,_⟩:=C.a;have⟨g0,g1,g2,_⟩:=C.b;have j:=qJ r0;clear hq hb4 C R U;simp only at j;unfold qZX;have s:=(bal (Below.refl y.1.size y) (.cells #[.slice none 0 0, .slice none 0 0, .int .i64 0] 30)).trans ((bal (Below.refl _ (y.alloc (.cells #[.slice none 0 0, .slice none 0 0, .int .i64 0] 30))) (.cells #[.int .i64 ln, .int .i64 co, .int .i64 code] 97)).mono (by simp));have z0:=(s.cell (p:=⟨w.1.size+1,0,none⟩) j).trans r0;have z1:=(s.cell (p:=⟨w.1.size+1,1,none⟩) j).trans r1;have z2:=(s.cell (p:=⟨w.1.size+1,2,none⟩) j).trans r2;have f0:=(s.frozen (p:=⟨w.1.size+1,0,none⟩) j).trans g0;have f1:=(s.frozen (p:=⟨w.1.size+1,1,none⟩) j).trans g1;have f2:=(s.frozen (p:=⟨w.1.size+1,2,none⟩) j).trans g2;have HA:=hI s;have d4:¬w.1.size+1=y.1.size:=by omega
  have Y:¬w.1.size=y.1.size:=by omega
  have Z:¬y.1.size=w.1.size+1:=by omega
  clear s;go_wp2
  go_region
  go_wp2
  refine bodyPost_ret (v:=.tuple #[.agg #[.slice none 0 0, .slice none 0 0, .int .i64 0], .int .i64 ln, .int .i64 co, .int .i64 code]) (by simp[results,results22,go_sem, *]) rfl ?_;exact qQ9.badI rfl (jR (jR (jR (A.o.trans (HA.o.mono A.o.size)) (by omega) _) (by omega) _) (by omega) _).drew
def qXN(s:List UInt8):CR PrD :=
 match qZ4 s with
 | .ok t _=>qZb t
 | .bad a b c=>.bad a b c
 | .out=>.bad 0 0 0
theorem qMq{s:List UInt8}{t:qQ}{l:List Tok}(h:qZ4 s=.ok t l):qZl t/\∃ n ws,qQO n t=some ws/\ws.length<=458752/\(qUv ws).length<=458752:=by
 unfold qZ4 at h;split at h
 ·rename_i hs;unfold qJq at h;split at h
  ·cases h
  ·rename_i ts I;obtain⟨j,y⟩:=lex_toks _ s 1 1 ts (Nat.le_refl _) hs I;obtain⟨hN,hd,ws,z,A,C⟩:=prog_words 200000 ts ⟨j,by omega⟩ t l h;have o:=show_len ws;have G:=qPM ws;exact⟨hN,_,ws,z,by omega,by show(Lib.join ws [32]).length<=458752;omega⟩
 ·cases h
theorem qLq{s:List UInt8}{a b c:Int}(h:qZ4 s=.bad a b c):c≠0:=by
 unfold qZ4 at h;split at h
 ·rename_i hs;unfold qJq at h;split at h
  ·rename_i ln co code j;injection h with e1 e2 e3;rcases qPN _ _ _ _ (Nat.le_refl _) j with h | h <;> omega
  ·rename_i ts j;have:=NZ.rel_program 200000 (l:=ts) (l':=ts) rfl;rw[h]at this;exact this.2
 ·injection h with e1 e2 e3;omega
theorem qKb(s:ByteArray)(w:World)(hc:qYA w)(h4:qWB w):Calls prog 9 #[.string s] w (qQ9 (qXN s.data.toList) w):=by
 have hp:=bal (Below.refl w.1.size w) (.cells #[.slice none 0 0, .slice none 0 0, .int .i64 0] 30);have HP:=hI (qKx.new w);have HK:=hI (jX.new w #[.slice none 0 0, .slice none 0 0, .int .i64 0] 30);have X:=hI hp;have G:=hI (read_all s _ (h4.below hp).1);have HC:=hI (fun(W:World) (h:Below w.1.size w W)=>hc.below h);have H4:=hI (fun(W:World) (h:Below w.1.size w W)=>h4.below h);have HO:=qVG s.data.toList;have d9:(w.alloc (.cells #[.slice none 0 0, .slice none 0 0, .int .i64 0] 30)).1.size=w.1.size+1:=by simp
 clear hp hc h4;cases hr:qZ4 s.data.toList with
 | out=>exact absurd hr HO
 | bad a b c =>
  have y:=qLq hr;have d7:(c != 0)=true:=by simpa using y
  have R:=hI (show qXN s.data.toList=.bad a b c by simp only[qXN,hr]);rw[hr]at G;clear HO hr y HC H4;go_enter func9,ntmps9
  go_wp2_with fail
  refine(G.o).mono ?_;rintro e A ⟨rfl,j⟩;have d3:=hI (X.o.trans (j.mono X.o.size));have I:=HP.o.turn (j.block _ (by omega));have⟨r0,r1,r2,_⟩:=I.a;have⟨g0,g1,g2,_⟩:=I.b;have z:=qJ r0;simp only at z;have d8:¬w.1.size=A.1.size:=by omega
  have d6:¬A.1.size=w.1.size:=by omega
  clear j I HP G X HK;unfold qXH;go_wp2
  refine bodyPost_ret (v:=.tuple #[.agg #[.slice none 0 0, .slice none 0 0, .int .i64 0], .int .i64 a, .int .i64 b, .int .i64 c]) (by simp[results,results9,go_sem, *]) rfl ?_;exact qQ9.badI R.o (bal (jR (jR (jR d3.o (by omega) _) (by omega) _) (by omega) _) _)
 | ok t l =>
  obtain⟨hN,n,ws,hw,d5,d4⟩:=qMq hr;have R:=hI (show qXN s.data.toList=qZb t by simp only[qXN,hr]);rw[hr]at G;have Z:=hI (fun(v:Value) (W:World) (h:Below w.1.size w W) (hL:xZ W (· < W.1.size) t v)=>qLY n t v W ws (HC.o W h) (H4.o W h) hL hN hw (by omega) (by omega));clear HO hr hN hw d5 d4 HC H4;rw[R.o];generalize qZb t=p at *;go_enter func9,ntmps9
  go_wp2_with fail
  refine(G.o).mono ?_;rintro e A ⟨v,rfl,d2,j⟩;have hL:xZ A (· < A.1.size) t v:=xZ.move (fun g hg _=>⟨hg,rfl⟩) t v d2.lies;obtain⟨qa,ca,rfl,_,_⟩:=hL.shape;have Y:=bal (Below.refl A.1.size A) (.cells (qS t (.slice qa t.kids.length ca)).toArray 57);have V:=X.o.trans ((j.trans (Y.mono j.size)).mono X.o.size);have I:=hI (HP.o.turn ((j.trans (Y.mono j.size)).block _ (by omega)));have K1:=hI (HK.o.turn ((j.trans (Y.mono j.size)).block _ (by omega)));have O:=hI (Z.o (.slice qa t.kids.length ca) _ V (xZ.move (fun g hg hok=>⟨Nat.lt_of_lt_of_le hg Y.size,Y.block g hg⟩) _ _ hL));have C:=hI V;have f3:=j.size;have hs2:(A.alloc (.cells (qS t (.slice qa t.kids.length ca)).toArray 57)).1.size=A.1.size+1:=by simp
  clear d2 j hL Y V HP HK G Z X;simp only[qS,qZ]at *;go_wp2_with fail
  refine(O.o).mono ?_;intro e w4 hq;rcases hq.cases with⟨r,v,rfl,rfl,hr,hb4⟩ | ⟨ln,co,code,rfl,rfl,hb4⟩
  ·have hlo:w.1.size < (A.alloc (.cells #[.string ⟨t.kind.toArray⟩, .string ⟨t.text.toArray⟩, .int .u64 t.num, .int .i64 t.line, .int .i64 t.col, .slice qa t.kids.length ca] 57)).1.size:=by omega
   obtain⟨gq,gc,fq,fc,rfl⟩:=hr.shape;have G:=hI hr;have J:=hI (C.o.trans (hb4.mono C.o.size));have K4:=hI (K1.o.turn (hb4.block _ hlo));have U:=I.o.turn (hb4.block _ hlo);have⟨r0,r1,r2,_⟩:=U.a;have⟨g0,g1,g2,_⟩:=U.b;have z:=qJ r0;clear hq hr hb4 U O I K1;simp only at z;go_wp2
   refine bodyPost_ret (v:=.tuple #[.agg #[.slice gq r.globals.length gc, .slice fq r.funcs.length fc, .int .i64 r.main], .int .i64 0, .int .i64 0, .int .i64 0]) (by simp[results,results9,go_sem, *]) rfl ?_;refine qQ9.okI rfl (G.o.move K4.o ⟨hlo,by omega⟩ fun k hk hne4=>?_) (jR (jR (jR J.o (by omega) _) (by omega) _) (by omega) _);rw[hS _ _ _ _ hne4,hS _ _ _ _ hne4,hS _ _ _ _ hne4]
  ·have hlo:w.1.size < (A.alloc (.cells #[.string ⟨t.kind.toArray⟩, .string ⟨t.text.toArray⟩, .int .u64 t.num, .int .i64 t.line, .int .i64 t.col, .slice qa t.kids.length ca] 57)).1.size:=by omega
   have J:=hI (C.o.trans (hb4.mono C.o.size));have U:=I.o.turn (hb4.block _ hlo);have⟨r0,r1,r2,_⟩:=U.a;have⟨g0,g1,g2,_⟩:=U.b;have z:=qJ r0;clear hq hb4 U O I K1;simp only at z;unfold qZX;go_wp2
   refine bodyPost_ret (v:=.tuple #[.agg #[.slice none 0 0, .slice none 0 0, .int .i64 0], .int .i64 ln, .int .i64 co, .int .i64 code]) (by simp[results,results9,go_sem, *]) rfl ?_;exact qQ9.badI rfl (jR (jR (jR J.o (by omega) _) (by omega) _) (by omega) _)
def qYz{α β:Type}(f:α->β->List Value):List α->List β->List Value
 | t :: ts,v :: vs=>f t v++qYz f ts vs
 | _,_=>[]
theorem zipR_at{α β:Type}{f:α->β->List Value}{n:Nat}(hf:∀ a b,(f a b).length=n):∀ (L:List α) (M:List β) (i k:Nat) (hi:i < L.length) (j:i < M.length),k < n->(qYz f L M)[i * n+k]? = (f L[i] M[i])[k]?
 | t :: ts,v :: vs,0,k,_,_,hk=>by
  rw[qYz,Nat.zero_mul,Nat.zero_add,List.getElem?_append_left (by rw[hf];exact hk)];rfl
 | t :: ts,v :: vs,i+1,k,hi,j,hk=>by
  rw[qYz,List.getElem?_append_right (by rw[hf,Nat.add_mul];omega)];have e:(i+1) * n+k - (f t v).length=i * n+k:=by rw[hf,Nat.add_mul];omega
  rw[e];exact zipR_at hf ts vs i k (by simpa using hi) (by simpa using j) hk
 | [],_,i,_,hi,_,_=>by simp at hi
 | _ :: _,[],i,_,_,j,_=>by simp at j
theorem qP8:∀ (L:List Ex) (M:List Value),qVM L M=qYz exC L M
 | [],_=>by simp[qVM,qYz]
 | _ :: _,[]=>rfl
 | t :: ts,v :: vs=>by rw[qVM,qYz,qP8 ts vs]
theorem qP9:∀ (L:List Sx) (M:List qQg),qVN L M=qYz sxC L M
 | [],_=>by simp[qVN,qYz]
 | _ :: _,[]=>rfl
 | t :: ts,v :: vs=>by rw[qVN,qYz,qP9 ts vs]
theorem qLn{α β:Type}{f:α->β->List Value}{n:Nat}(hf:∀ a b,(f a b).length=n){w:World}{base T m:Nat}{v:Value}{L:List α}{M:List β}{g:Nat}(h:w.ownsRow base T n v m (qYz f L M))(hg:v.ownBlock=some g)
 {i k:Nat} (hi:i < L.length) (j:i < M.length) (o:k < n) {u:Value} (s:(f L[i] M[i])[k]? = some u):w.cell? ⟨g,i * n+k,none⟩=some u:=by
 have:=h.cells hg (i * n+k) u (by rw[zipR_at hf L M i k hi j o];exact s);rw[Lib.add_plain,Nat.zero_add]at this;exact this
theorem yN.at{w:World}{ok:Nat->Prop}:∀ {ts:List Ex} {j:List Value},yN w ok ts j->∀ i (h:i < ts.length) (o:i < j.length),qQF w ok ts[i] j[i]
 | _ :: _,_ :: _,hL,0,_,_=>hL.1
 | _ :: _,_ :: _,hL,i+1,h,o=>yN.at hL.2 i (by simpa using h) (by simpa using o)
 | [],_,_,_,h,_=>by simp at h
 | _ :: _,[],hL,_,_,_=>hL.elim
theorem yZ.at{w:World}{ok:Nat->Prop}:∀ {ts:List Sx} {j:List qQg},yZ w ok ts j->∀ i (h:i < ts.length) (o:i < j.length),wL w ok ts[i] j[i]
 | _ :: _,_ :: _,hL,0,_,_=>hL.1
 | _ :: _,_ :: _,hL,i+1,h,o=>yZ.at hL.2 i (by simpa using h) (by simpa using o)
 | [],_,_,_,h,_=>by simp at h
 | _ :: _,[],hL,_,_,_=>hL.elim
def Ex.op:Ex->List UInt8 | .mk op _ _ _ _ _ _ _=>op
def Ex.num:Ex->Int | .mk _ _ n _ _ _ _ _=>n
def Ex.var:Ex->Int | .mk _ _ _ v _ _ _ _=>v
def Ex.glob:Ex->Bool | .mk _ _ _ _ g _ _ _=>g
def Ex.line:Ex->Int | .mk _ _ _ _ _ l _ _=>l
def Ex.col:Ex->Int | .mk _ _ _ _ _ _ c _=>c
def Sx.op:Sx->List UInt8 | .mk op _ _ _ _ _ _ _=>op
def Sx.line:Sx->Int | .mk _ l _ _ _ _ _ _=>l
def Sx.col:Sx->Int | .mk _ _ c _ _ _ _ _=>c
def Sx.target:Sx->List Ex | .mk _ _ _ t _ _ _ _=>t
def Sx.exprs:Sx->List Ex | .mk _ _ _ _ e _ _ _=>e
def Sx.fn:Sx->Int | .mk _ _ _ _ _ f _ _=>f
def Sx.thn:Sx->List Sx | .mk _ _ _ _ _ _ t _=>t
def Sx.els:Sx->List Sx | .mk _ _ _ _ _ _ _ e=>e
structure CEx(g o:Nat)(e:Ex)(v:Value)(w:World):Prop where
 c0:w.cell? ⟨g,o,none⟩=some (.string ⟨e.op.toArray⟩)
 c1:w.cell? ⟨g,o+1,none⟩=some (.int .i64 e.ty.1)
 c2:w.cell? ⟨g,o+2,none⟩=some (.bool e.ty.2)
 c3:w.cell? ⟨g,o+3,none⟩=some (.int .u64 e.num)
 c4:w.cell? ⟨g,o+4,none⟩=some (.int .i64 e.var)
 c5:w.cell? ⟨g,o+5,none⟩=some (.bool e.glob)
 c6:w.cell? ⟨g,o+6,none⟩=some (.int .i64 e.line)
 c7:w.cell? ⟨g,o+7,none⟩=some (.int .i64 e.col)
 c8:w.cell? ⟨g,o+8,none⟩=some (v)
theorem CEx.a{g o:Nat}{e:Ex}{v:Value}{w:World}(h:CEx g o e v w):w.cell? ⟨g,o,none⟩=some (.string ⟨e.op.toArray⟩)/\w.cell? ⟨g,o+1,none⟩=some (.int .i64 e.ty.1)/\w.cell? ⟨g,o+2,none⟩=some (.bool e.ty.2)/\w.cell? ⟨g,o+3,none⟩=some (.int .u64 e.num)/\w.cell? ⟨g,o+4,none⟩=some (.int .i64 e.var)/\w.cell? ⟨g,o+5,none⟩=some (.bool e.glob)/\w.cell? ⟨g,o+6,none⟩=some (.int .i64 e.line)/\w.cell? ⟨g,o+7,none⟩=some (.int .i64 e.col)/\w.cell? ⟨g,o+8,none⟩=some (v)/\True:=⟨h.c0,h.c1,h.c2,h.c3,h.c4,h.c5,h.c6,h.c7,h.c8,trivial⟩
theorem CEx.move{g o:Nat}{e:Ex}{v:Value}{w w':World}(h:CEx g o e v w)(hg:w'.1[g]? = w.1[g]?):CEx g o e v w' :=
 ⟨(cB hg).trans h.c0,(cB hg).trans h.c1,(cB hg).trans h.c2,(cB hg).trans h.c3,(cB hg).trans h.c4,(cB hg).trans h.c5,(cB hg).trans h.c6,(cB hg).trans h.c7,(cB hg).trans h.c8⟩
structure CSx(g o:Nat)(e:Sx)(v:qQg)(w:World):Prop where
 c0:w.cell? ⟨g,o,none⟩=some (.string ⟨e.op.toArray⟩)
 c1:w.cell? ⟨g,o+1,none⟩=some (.int .i64 e.line)
 c2:w.cell? ⟨g,o+2,none⟩=some (.int .i64 e.col)
 c3:w.cell? ⟨g,o+3,none⟩=some (v.tv)
 c4:w.cell? ⟨g,o+4,none⟩=some (v.ev)
 c5:w.cell? ⟨g,o+5,none⟩=some (.int .i64 e.fn)
 c6:w.cell? ⟨g,o+6,none⟩=some (v.hv)
 c7:w.cell? ⟨g,o+7,none⟩=some (v.lv)
theorem CSx.a{g o:Nat}{e:Sx}{v:qQg}{w:World}(h:CSx g o e v w):w.cell? ⟨g,o,none⟩=some (.string ⟨e.op.toArray⟩)/\w.cell? ⟨g,o+1,none⟩=some (.int .i64 e.line)/\w.cell? ⟨g,o+2,none⟩=some (.int .i64 e.col)/\w.cell? ⟨g,o+3,none⟩=some (v.tv)/\w.cell? ⟨g,o+4,none⟩=some (v.ev)/\w.cell? ⟨g,o+5,none⟩=some (.int .i64 e.fn)/\w.cell? ⟨g,o+6,none⟩=some (v.hv)/\w.cell? ⟨g,o+7,none⟩=some (v.lv)/\True:=⟨h.c0,h.c1,h.c2,h.c3,h.c4,h.c5,h.c6,h.c7,trivial⟩
theorem CSx.move{g o:Nat}{e:Sx}{v:qQg}{w w':World}(h:CSx g o e v w)(hg:w'.1[g]? = w.1[g]?):CSx g o e v w' :=
 ⟨(cB hg).trans h.c0,(cB hg).trans h.c1,(cB hg).trans h.c2,(cB hg).trans h.c3,(cB hg).trans h.c4,(cB hg).trans h.c5,(cB hg).trans h.c6,(cB hg).trans h.c7⟩
structure FVals where
 vv:Value
 bv:Value
def fdV(f:qQ2)(x:FVals):Value:=.agg #[.string ⟨f.name.toArray⟩, .int .i64 f.t.1, .bool f.t.2, .int .i64 f.params,x.vv,x.bv]
structure CFn(g o:Nat)(e:qQ2)(v:FVals)(w:World):Prop where
 c0:w.cell? ⟨g,o,none⟩=some (.string ⟨e.name.toArray⟩)
 c1:w.cell? ⟨g,o+1,none⟩=some (.int .i64 e.t.1)
 c2:w.cell? ⟨g,o+2,none⟩=some (.bool e.t.2)
 c3:w.cell? ⟨g,o+3,none⟩=some (.int .i64 e.params)
 c4:w.cell? ⟨g,o+4,none⟩=some (v.vv)
 c5:w.cell? ⟨g,o+5,none⟩=some (v.bv)
theorem CFn.a{g o:Nat}{e:qQ2}{v:FVals}{w:World}(h:CFn g o e v w):w.cell? ⟨g,o,none⟩=some (.string ⟨e.name.toArray⟩)/\w.cell? ⟨g,o+1,none⟩=some (.int .i64 e.t.1)/\w.cell? ⟨g,o+2,none⟩=some (.bool e.t.2)/\w.cell? ⟨g,o+3,none⟩=some (.int .i64 e.params)/\w.cell? ⟨g,o+4,none⟩=some (v.vv)/\w.cell? ⟨g,o+5,none⟩=some (v.bv)/\True:=⟨h.c0,h.c1,h.c2,h.c3,h.c4,h.c5,trivial⟩
theorem CFn.move{g o:Nat}{e:qQ2}{v:FVals}{w w':World}(h:CFn g o e v w)(hg:w'.1[g]? = w.1[g]?):CFn g o e v w' :=
 ⟨(cB hg).trans h.c0,(cB hg).trans h.c1,(cB hg).trans h.c2,(cB hg).trans h.c3,(cB hg).trans h.c4,(cB hg).trans h.c5⟩
structure CVr(g o:Nat)(e:qI)(v:Unit)(w:World):Prop where
 c0:w.cell? ⟨g,o,none⟩=some (.string ⟨e.name.toArray⟩)
 c1:w.cell? ⟨g,o+1,none⟩=some (.int .i64 e.t.1)
 c2:w.cell? ⟨g,o+2,none⟩=some (.bool e.t.2)
 c3:w.cell? ⟨g,o+3,none⟩=some (.int .i64 e.size)
theorem CVr.a{g o:Nat}{e:qI}{v:Unit}{w:World}(h:CVr g o e v w):w.cell? ⟨g,o,none⟩=some (.string ⟨e.name.toArray⟩)/\w.cell? ⟨g,o+1,none⟩=some (.int .i64 e.t.1)/\w.cell? ⟨g,o+2,none⟩=some (.bool e.t.2)/\w.cell? ⟨g,o+3,none⟩=some (.int .i64 e.size)/\True:=⟨h.c0,h.c1,h.c2,h.c3,trivial⟩
theorem CVr.move{g o:Nat}{e:qI}{v:Unit}{w w':World}(h:CVr g o e v w)(hg:w'.1[g]? = w.1[g]?):CVr g o e v w' :=
 ⟨(cB hg).trans h.c0,(cB hg).trans h.c1,(cB hg).trans h.c2,(cB hg).trans h.c3⟩
def qWx(B:Nat)(w:World)(es:List Ex)(q:Option Addr):Prop:=es=[]\/∃ g,q=some ⟨g,0,none⟩/\g < B/\g < w.1.size/\∀ i (h:i < es.length),∃ v,qQF w (· < B) es[i] v/\CEx g (i * 9) es[i] v w
theorem qU.at{B:Nat}{w:World}{o:List Ex}{v:Value}(h:qU w (· < B) o v):∃ q c,v=.slice q o.length c/\o.length<=maxLen/\qWx B w o q:=by
 obtain⟨s,I,h2,h3⟩:=h;have C:=yN.length o s h3;rw[qP8]at h2;rcases h2.2 with⟨rfl,z⟩ | ⟨g,y,G,rfl,_,hg,h4,R,_⟩
 ·exact⟨none,0,by rw[z],by unfold maxLen;omega, .inl (List.length_eq_zero_iff.1 z)⟩
 ·refine⟨_,y,rfl,by omega, .inr ⟨g,rfl,I g rfl,(h2.lt g rfl).2,fun i hi=>?_⟩⟩;have A:i < s.length:=by omega
  have hl:=yN.at h3 i hi A;have j:=fun(k:Nat) (u:Value) (J:k < 9) (O:(exC o[i] s[i])[k]? = some u)=>qLn exC_len h2 (g:=g) rfl hi A J O
  refine⟨s[i],hl,?_⟩;generalize o[i]=e at *;obtain⟨op,t,n,va,gl,l,c,ks⟩:=e;exact⟨j 0 _ (by omega) rfl,j 1 _ (by omega) rfl,j 2 _ (by omega) rfl,j 3 _ (by omega) rfl,j 4 _ (by omega) rfl,j 5 _ (by omega) rfl,j 6 _ (by omega) rfl,j 7 _ (by omega) rfl,j 8 _ (by omega) rfl⟩
theorem qQF.keep{B:Nat}{w w':World}{e:Ex}{v:Value}(h:qQF w (· < B) e v)(hb:Below B w w'):qQF w' (· < B) e v:=qQF.move (fun g _ hg=>⟨hg,hb.block g hg⟩) e v h
theorem qWx.keep{B:Nat}{w w':World}{j:List Ex}{q:Option Addr}(h:qWx B w j q)(hb:Below B w w'):qWx B w' j q:=by
 rcases h with h | ⟨g,o,h2,h3,h4⟩
 ·exact .inl h
 ·exact .inr ⟨g,o,h2,Nat.lt_of_lt_of_le h3 hb.size,fun i hi=>by obtain⟨v,a,b⟩:=h4 i hi;exact⟨v,a.keep hb,b.move (hb.block g h2)⟩⟩
theorem qQF.at{B:Nat}{w:World}{e:Ex}{v:Value}(h:qQF w (· < B) e v):∃ q c,v=.slice q e.kids.length c/\e.kids.length<=maxLen/\qWx B w e.kids q:=((qVr e v).1 h).at
def qVt(B:Nat)(w:World)(ss:List Sx)(q:Option Addr):Prop:=ss=[]\/∃ g,q=some ⟨g,0,none⟩/\g < B/\g < w.1.size/\∀ i (h:i < ss.length),∃ v,wL w (· < B) ss[i] v/\CSx g (i * 8) ss[i] v w
theorem jE.at{B:Nat}{w:World}{ss:List Sx}{v:Value}(h:jE w (· < B) ss v):∃ q c,v=.slice q ss.length c/\ss.length<=maxLen/\qVt B w ss q:=by
 obtain⟨o,G,h2,h3⟩:=h;have A:=yZ.length ss o h3;rw[qP9]at h2;rcases h2.2 with⟨rfl,y⟩ | ⟨g,s,C,rfl,_,hg,h4,U,_⟩
 ·exact⟨none,0,by rw[y],by unfold maxLen;omega, .inl (List.length_eq_zero_iff.1 y)⟩
 ·refine⟨_,s,rfl,by omega, .inr ⟨g,rfl,G g rfl,(h2.lt g rfl).2,fun i hi=>?_⟩⟩;have z:i < o.length:=by omega
  have hl:=yZ.at h3 i hi z;have j:=fun(k:Nat) (u:Value) (I:k < 8) (J:(sxC ss[i] o[i])[k]? = some u)=>qLn sxC_len h2 (g:=g) rfl hi z I J
  refine⟨o[i],hl,?_⟩;generalize ss[i]=e at *;obtain⟨op,l,c,tg,R,fn,V,O⟩:=e;exact⟨j 0 _ (by omega) rfl,j 1 _ (by omega) rfl,j 2 _ (by omega) rfl,j 3 _ (by omega) rfl,j 4 _ (by omega) rfl,j 5 _ (by omega) rfl,j 6 _ (by omega) rfl,j 7 _ (by omega) rfl⟩
theorem wL.keep{B:Nat}{w w':World}{e:Sx}{v:qQg}(h:wL w (· < B) e v)(hb:Below B w w'):wL w' (· < B) e v:=wL.move (fun g _ hg=>⟨hg,hb.block g hg⟩) e v h
theorem qVt.keep{B:Nat}{w w':World}{ss:List Sx}{q:Option Addr}(h:qVt B w ss q)(hb:Below B w w'):qVt B w' ss q:=by
 rcases h with h | ⟨g,j,h2,h3,h4⟩
 ·exact .inl h
 ·exact .inr ⟨g,j,h2,Nat.lt_of_lt_of_le h3 hb.size,fun i hi=>by obtain⟨v,a,b⟩:=h4 i hi;exact⟨v,a.keep hb,b.move (hb.block g h2)⟩⟩
theorem wL.at{B:Nat}{w:World}{e:Sx}{v:qQg}(h:wL w (· < B) e v):∃ j c1 o c2 s c3 y c4,v=⟨.slice j e.target.length c1, .slice o e.exprs.length c2, .slice s e.thn.length c3, .slice y e.els.length c4⟩ /\
 qWx B w e.target j/\qWx B w e.exprs o/\qVt B w e.thn s/\qVt B w e.els y/\e.target.length<=maxLen/\e.exprs.length<=maxLen/\e.thn.length<=maxLen/\e.els.length<=maxLen:=by
 obtain⟨op,l,c,tg,R,fn,O,I⟩:=e;obtain⟨J,h2,h3,h4⟩:=h;obtain⟨j,c1,z,l1,C⟩:=J.at
 obtain⟨o,c2,e2,l2,G⟩:=h2.at
 obtain⟨s,c3,e3,l3,a3⟩:=jE.at (ss:=O) h3;obtain⟨y,c4,A,l4,a4⟩:=jE.at (ss:=I) h4;obtain⟨tv,ev,hv,lv⟩:=v;simp only at z e2 e3 A;subst z e2 e3 A;exact⟨j,c1,o,c2,s,c3,y,c4,rfl,C,G,a3,a4,l1,l2,l3,l4⟩
def qYC(B:Nat)(w:World)(vs:List qI)(q:Option Addr):Prop:=vs=[]\/∃ g,q=some ⟨g,0,none⟩/\g < B/\g < w.1.size/\∀ i (h:i < vs.length),CVr g (i * 4) vs[i] () w
theorem qQI.at{B:Nat}{w:World}{o:List qI}{v:Value}(h:qQI w 0 o v)(hB:w.1.size<=B):∃ q c,v=.slice q o.length c/\o.length<=maxLen/\qYC B w o q:=by
 have h2:w.ownsRow 0 42 4 v o.length (xD qQe o):=h;rcases h2.2 with⟨rfl,y⟩ | ⟨g,s,z,rfl,_,hg,h4,G,_⟩
 ·exact⟨none,0,by rw[y],by unfold maxLen;omega, .inl (List.length_eq_zero_iff.1 y)⟩
 ·refine⟨_,s,rfl,by omega, .inr ⟨g,rfl,Nat.lt_of_lt_of_le (h2.lt g rfl).2 hB,(h2.lt g rfl).2,fun i hi=>?_⟩⟩;have j:=fun(k:Nat) (u:Value) (A:k < 4) (C:(qQe o[i])[k]? = some u)=>qQm qJ0 h2 (g:=g) rfl hi A C
  exact⟨j 0 _ (by omega) rfl,j 1 _ (by omega) rfl,j 2 _ (by omega) rfl,j 3 _ (by omega) rfl⟩
theorem qYC.keep{B:Nat}{w w':World}{j:List qI}{q:Option Addr}(h:qYC B w j q)(hb:Below B w w'):qYC B w' j q:=by
 rcases h with h | ⟨g,o,h2,h3,h4⟩
 ·exact .inl h
 ·exact .inr ⟨g,o,h2,Nat.lt_of_lt_of_le h3 hb.size,fun i hi=>(h4 i hi).move (hb.block g h2)⟩
def qLB(B:Nat)(w:World)(fs:List qQ2)(q:Option Addr):Prop:=fs=[]\/∃ g,q=some ⟨g,0,none⟩/\g < B/\g < w.1.size/\∀ i (h:i < fs.length),∃ qv cv qb cb,CFn g (i * 6) fs[i] ⟨.slice qv fs[i].vars.length cv, .slice qb fs[i].body.length cb⟩ w/\qYC B w fs[i].vars qv/\fs[i].vars.length<=64/\qVt B w fs[i].body qb/\fs[i].body.length<=maxLen
theorem qLB.keep{B:Nat}{w w':World}{fs:List qQ2}{q:Option Addr}(h:qLB B w fs q)(hb:Below B w w'):qLB B w' fs q:=by
 rcases h with h | ⟨g,o,h2,h3,h4⟩
 ·exact .inl h
 ·exact .inr ⟨g,o,h2,Nat.lt_of_lt_of_le h3 hb.size,fun i hi=>by obtain⟨y,j,s,cb,a,b,c,d,e⟩:=h4 i hi;exact⟨y,j,s,cb,a.move (hb.block g h2),b.keep hb,c,d.keep hb,e⟩⟩
theorem outD_at:∀ (fs:List FnM) (j:List (List Sx)) (i:Nat) (h:i < (qXt fs j).length) (hf:i < fs.length),(qXt fs j)[i]=mkD fs[i] (j.getD i [])
 | f :: fs,b :: j,0,_,_=>rfl
 | f :: fs,b :: j,i+1,h,hf=>by
  simp only[qXt,List.getElem_cons_succ,List.getD_cons_succ];exact outD_at fs j i (by simpa[qXt]using h) (by simpa using hf)
 | [],_,i,h,hf=>by simp at hf
 | _ :: _,[],i,h,_=>by simp[qXt]at h
structure qPb(B:Nat)(p:PrD)(gq fq:Option Addr)(w:World):Prop where
 gs:qYC B w p.globals gq
 fs:qLB B w p.funcs fq
 gl:p.globals.length<=64
 fl:p.funcs.length<=16
 ma:∃ i:Nat,p.main=i/\i < p.funcs.length
theorem qPb.keep{B:Nat}{p:PrD}{o j:Option Addr}{w w':World}(h:qPb B p o j w)(hb:Below B w w'):qPb B p o j w':=⟨h.gs.keep hb,h.fs.keep hb,h.gl,h.fl,h.ma⟩
def prV(p:PrD)(gq fq:Option Addr)(gc fc:Nat):Value:=.agg #[.slice gq p.globals.length gc, .slice fq p.funcs.length fc, .int .i64 p.main]
theorem qZ2.at{lo:Nat}{p:PrD}{v:Value}{w:World}(h:qZ2 lo p v w):∃ A G s fc,v=prV p A s G fc/\qPb w.1.size p A s w:=by
 obtain⟨fs,z,gv,fv,rfl,h1,h2,h3,h4,h5,h6,h7,h8,h9,i,I,d2⟩:=h;have J:p.funcs.length=fs.length:=by rw[h4,qVf fs z (by omega),h5]
 obtain⟨A,G,rfl,_,hg⟩:=h1.at (Nat.le_refl _);refine⟨A,G,?_⟩;have O:∃ s fc,fv=.slice s fs.length fc/\qLB w.1.size w p.funcs s:=by
  rcases h2.2 with⟨rfl,Z⟩ | ⟨g,C,V,rfl,_⟩
  ·exact⟨none,0,by rw[Z], .inl (List.length_eq_zero_iff.1 (by omega))⟩
  ·refine⟨_,C,rfl, .inr ⟨g,rfl,(h2.lt g rfl).2,(h2.lt g rfl).2,fun j hj=>?_⟩⟩;have o:j < fs.length:=by omega
   obtain⟨qv,X,ev,_,U⟩:=(h3 fs[j] (List.getElem_mem o)).at (Nat.le_refl _);have hb:=h6 j (by omega);rw[show fs.getD j noF=fs[j] by simp[List.getD_eq_getElem?_getD,o]]at hb;obtain⟨qb,cb,Y,lb,R⟩:=jE.at (hb.move (ok':=(· < w.1.size)) (w':=w) (fun g hg _=>⟨hg,rfl⟩));have hc:=qZv h2 o;have y:=h9 fs[j] (List.getElem_mem o);have e:p.funcs[j]=mkD fs[j] (z.getD j []):=by
    have:=outD_at fs z j (by rw[qVf fs z (by omega)];omega) o;simp only[h4];exact this
   rw[e];obtain⟨c0,c1,c2,c3,c4,c5⟩:=hc;rw[ev]at c4;rw[Y]at c5;exact⟨qv,X,qb,cb,⟨c0,c1,c2,c3,c4,c5⟩,U,y,R,lb⟩
 obtain⟨s,fc,rfl,hf⟩:=O;exact⟨s,fc,by rw[prV,J],hg,hf,h7,by omega,i,I,by omega⟩
def cmpB(x:List UInt8):Bool:=x == [61,61] || (x == [33,61] || (x == [60] || (x == [60,61] || (x == [62] || x == [62,61]))))
def KOk(op:List UInt8)(t:Ty)(ks:List Ex):Prop :=
 op=zK\/(op=qL/\∀ k∈ks,k.ty.1≠1)\/(cmpB op=true/\t.1=1/\∃ u,∀ k∈ks,k.ty=u)\/(op≠zK/\op≠qL/\cmpB op=false/\∀ k∈ks,k.ty=t)
inductive Snd:Ex->Prop
 | mk (op:List UInt8) (t:Ty) (n v:Int) (g:Bool) (l c:Int) (ks:List Ex) (h1:∀ k∈ks,Snd k) (h2:∀ k∈ks,rt k.ty.1 k.ty.2=true)
  (h3:KOk op t ks) (h4:op=zD->0<=n/\(t.1=64\/∃ b:Nat,b < 64/\t.1=b/\n < 2 ^ b)):Snd (.mk op t n v g l c ks)
theorem qMb{b:Bool}{t:qQ}{c:Int}{u:Unit}(h:jQ b t c=.ok u):b=true:=by
 unfold jQ at h;cases b
 ·cases h
 ·rfl
theorem qL9{α β:Type}{p:CR α}{f:α->CR β}{b:β}(h:p.bind f=.ok b):∃ a,p=.ok a/\f a=.ok b:=by
 cases p with
 | ok a=>exact⟨a,rfl,h⟩
 | bad x y z=>cases h
theorem CR.ok_inj{α:Type}{a b:α}(h:CR.ok a=CR.ok b):a=b:=by injection h
theorem qMx(s:ByteArray):∀ l:List (ByteArray×Int×Bool),(∀ e∈l,rt e.2.1 e.2.2=true)->((qJh s l).1,(qJh s l).2.1)=noT\/rt (qJh s l).1 (qJh s l).2.1=true
 | [],_=>.inl rfl
 | (n,w,g) :: r,h=>by
  rw[qJh];split
  ·exact .inr (h (n,w,g) (by simp))
  ·exact qMx s r fun e he=>h e (by simp[he])
theorem tyL_rt(x:List UInt8):tyL x=noT\/rt (tyL x).1 (tyL x).2=true :=
 qMx _ qJv (by decide)
theorem qMB{x:List UInt8}(h:yG x=true):rt (tyL x).1 (tyL x).2=true:=by
 have o:∀ l:List (List UInt8),(∀ y∈l,rt (tyL y).1 (tyL y).2=true)->kJ x l=true->rt (tyL x).1 (tyL x).2=true:=by
  intro l;induction l with
  | nil=>intro _ h;simp[kJ]at h
  | cons y r ih =>
   intro hl h;rw[kJ]at h;by_cases j:y=x
   ·subst j;exact hl _ (by simp)
   ·exact ih (fun z hz=>hl z (by simp[hz])) (by simpa[j]using h)
 refine o qQw ?_ h;intro y s;have:y∈qQw:=s;unfold qQw at this;simp at this;rcases this with rfl | rfl | rfl | rfl | rfl | rfl | rfl | rfl | rfl <;> (show _=true;kernel_rfl)
theorem qMk{x:List UInt8}:∀ {l:List qI} {i:Nat} {v:qI} {j:Nat},qQj x i l=some (v,j)->v∈l
 | [],_,_,_,h=>by simp[qQj]at h
 | a :: r,i,v,j,h=>by
  rw[qQj]at h;split at h
  ·injection h with h;injection h with h1 h2;subst h1;simp
  ·exact List.mem_cons_of_mem _ (qMk h)
section
variable {E:Env} (hg:∀ v∈E.gs,rt v.t.1 v.t.2=true) (ho:∀ v∈E.own,rt v.t.1 v.t.2=true)
include hg ho
theorem find_rt{t:qQ}{r:qI×Nat×Bool}(h:qZD E t=.ok r):rt r.1.t.1 r.1.t.2=true:=by
 unfold qZD at h;split at h
 ·rename_i v i j;obtain rfl:=CR.ok_inj h;exact ho _ (qMk j)
 ·split at h
  ·rename_i v i j;obtain rfl:=CR.ok_inj h;exact hg _ (qMk j)
  ·cases h
mutual
theorem sug_rt:∀ (t:qQ) (u:Ty),qJu E t=.ok u->u=noT\/rt u.1 u.2=true
 | .mk k x m ln co ks,u,h=>by
  rw[qJu]at h;split at h
  ·obtain rfl:=CR.ok_inj h;exact .inl rfl
  split at h
  ·obtain rfl:=CR.ok_inj h;exact .inr rfl
  split at h
  ·obtain⟨a,h1,h2⟩:=qL9 h;obtain rfl:=CR.ok_inj h2;exact .inr (find_rt hg ho h1)
  split at h
  ·obtain rfl:=CR.ok_inj h;exact tyL_rt x
  split at h
  ·obtain rfl:=CR.ok_inj h;exact .inr rfl
  ·exact qMp ks u h
theorem qMp:∀ (ts:List qQ) (u:Ty),qQu E ts=.ok u->u=noT\/rt u.1 u.2=true
 | [],u,h=>by rw[qQu]at h;obtain rfl:=CR.ok_inj h;exact .inl rfl
 | t :: r,u,h=>by
  rw[qQu]at h;obtain⟨a,h1,h2⟩:=qL9 h;split at h2
  ·exact qMp r u h2
  ·obtain rfl:=CR.ok_inj h2;exact sug_rt t a h1
end
theorem qMe{ts:List qQ}{u:Ty}(h:yB E ts=.ok u):rt u.1 u.2=true:=by
 unfold yB at h;obtain⟨a,o,h2⟩:=qL9 h;obtain rfl:=CR.ok_inj h2;split
 ·rfl
 ·rename_i j;exact(qMp hg ho ts a o).resolve_left j
theorem qMI{t:qQ}{p:Ex}(h:qQ1 E t=.ok p):rt p.ty.1 p.ty.2=true/\∃ n v g,p=.mk (if t.kind == qL then qL else qMc) p.ty n v g t.line t.col []:=by
 unfold qQ1 at h;obtain⟨a,j,h2⟩:=qL9 h;obtain⟨_,_,h3⟩:=qL9 h2;obtain rfl:=CR.ok_inj h3;exact⟨find_rt hg ho j,_,_,_,rfl⟩
omit hg ho in
theorem qMK{x:List UInt8}{n:Nat}:∀ {l:List (List UInt8×Nat)},kE x l=some n->(x,n)∈l
 | [],h=>by simp[kE]at h
 | (y,r) :: l,h=>by
  rw[kE]at h;split at h
  ·rename_i e;rw[beq_iff_eq]at e;injection h with h;subst e h;simp
  ·exact List.mem_cons_of_mem _ (qMK h)
omit hg ho in
theorem qMJ{x:List UInt8}{n:Nat}(h:qXx x=some n):x≠zK/\x≠qL/\cmpB x=(n == 1 || n == 2)/\x≠zD/\n<=4:=by
 have:=qMK h;unfold qQP at this;simp at this;rcases this with⟨rfl,rfl⟩ | ⟨rfl,rfl⟩ | ⟨rfl,rfl⟩ | ⟨rfl,rfl⟩ | ⟨rfl,rfl⟩ | ⟨rfl,rfl⟩ | ⟨rfl,rfl⟩ | ⟨rfl,rfl⟩ | ⟨rfl,rfl⟩ | ⟨rfl,rfl⟩ | ⟨rfl,rfl⟩ | ⟨rfl,rfl⟩ | ⟨rfl,rfl⟩ | ⟨rfl,rfl⟩ | ⟨rfl,rfl⟩ | ⟨rfl,rfl⟩ | ⟨rfl,rfl⟩ | ⟨rfl,rfl⟩ | ⟨rfl,rfl⟩ | ⟨rfl,rfl⟩ | ⟨rfl,rfl⟩ <;> decide
theorem qMH{op:List UInt8}{n:Nat}{ts:List qQ}{T:Ty}{r:Ty×Bool}(hr:qXx op=some n)(hT:rt T.1 T.2=true)(h:qQr E op ts T=.ok r)(h2:r.2=true) :
 rt r.1.1 r.1.2=true/\(((n == 1 || n == 2)=true/\T=zO)\/((n == 1 || n == 2)=false/\r.1=T)):=by
 unfold qQr at h;rw[hr]at h;have j:=(qMJ hr).2.2.2.2;match n,j,h with
 | 0,_,h =>
  obtain rfl:=CR.ok_inj h;have hb:T=zO:=of_decide_eq_true h2;exact⟨rfl, .inr ⟨rfl,hb.symm⟩⟩
 | 1,_,h =>
  simp only at h;split at h
  ·obtain rfl:=CR.ok_inj h;cases h2
  ·rename_i hb;obtain⟨a,h3,h4⟩:=qL9 h;obtain rfl:=CR.ok_inj h4;exact⟨qMe hg ho h3, .inl ⟨rfl,Classical.not_not.1 hb⟩⟩
 | 2,_,h =>
  simp only at h;split at h
  ·obtain rfl:=CR.ok_inj h;cases h2
  ·rename_i hb;obtain⟨a,h3,h4⟩:=qL9 h;obtain rfl:=CR.ok_inj h4;exact⟨qMe hg ho h3, .inl ⟨rfl,Classical.not_not.1 hb⟩⟩
 | 3,_,h=>obtain rfl:=CR.ok_inj h;exact⟨hT, .inr ⟨rfl,rfl⟩⟩
 | 4,_,h=>obtain rfl:=CR.ok_inj h;exact⟨hT, .inr ⟨rfl,rfl⟩⟩
omit hg ho in
theorem num_fits{T:Ty}{m:Int}(hT:rt T.1 T.2=true)(j:T≠zO)(h2:qUl T.1 T.2 m=m):T.1=64\/∃ b:Nat,b < 64/\T.1=b/\m < 2 ^ b:=by
 obtain⟨W,S⟩:=T;unfold qUl at h2;simp only at h2 hT;rw[if_pos hT]at h2;unfold lowF at h2;rcases qYc hT with⟨rfl,rfl⟩ | rfl | rfl | rfl | rfl
 ·exact absurd rfl j
 ·exact .inr ⟨8,by decide,rfl,by have:m % 2 ^ (8:Int).toNat=m % 256:=rfl;have:(2:Int) ^ 8=256:=rfl;omega⟩
 ·exact .inr ⟨16,by decide,rfl,by have:m % 2 ^ (16:Int).toNat=m % 65536:=rfl;have:(2:Int) ^ 16=65536:=rfl;omega⟩
 ·exact .inr ⟨32,by decide,rfl,by have:m % 2 ^ (32:Int).toNat=m % 4294967296:=rfl;have:(2:Int) ^ 32=4294967296:=rfl;omega⟩
 ·exact .inl rfl
mutual
theorem qMh:∀ (t:qQ) (T:Ty) (e:Ex),wfE t=true->rt T.1 T.2=true->qQT E t T=.ok e->Snd e/\e.ty=T
 | .mk k x m ln co ks,T,e,hw,hT,h=>by
  have hk:qZV ks=true:=wfE.kids hw;rw[wfE]at hw;simp only[bE,decide_eq_true_eq]at hw;obtain⟨⟨⟨_,hm0,hm1⟩,hsh⟩,_⟩:=hw;rw[qQT]at h;split at h
  ·obtain⟨_,h1,h2⟩:=qL9 h;obtain rfl:=CR.ok_inj h2;have h1:=qMb h1;simp only[bE,decide_eq_true_eq]at h1;exact⟨.mk _ _ _ _ _ _ _ _ (by simp) (by simp) (.inr (.inr (.inr ⟨by decide,by decide,by decide,by simp⟩))) (fun _=>⟨hm0,num_fits hT h1.1 h1.2⟩),rfl⟩
  split at h
  ·obtain⟨_,h1,h2⟩:=qL9 h;obtain rfl:=CR.ok_inj h2;have h1:T=zO:=of_decide_eq_true (qMb h1);subst h1;refine⟨.mk _ _ _ _ _ _ _ _ (by simp) (by simp) (.inr (.inr (.inr ⟨by decide,by decide,by decide,by simp⟩))) (fun _=>?_),rfl⟩;split
   ·exact⟨by decide, .inr ⟨1,by decide,rfl,by decide⟩⟩
   ·exact⟨by decide, .inr ⟨1,by decide,rfl,by decide⟩⟩
  split at h
  ·rename_i hn1 hn2 hkk;obtain⟨p,h1,h2⟩:=qL9 h;obtain⟨_,h3,h4⟩:=qL9 h2;have h3:p.ty=T:=of_decide_eq_true (qMb h3);obtain⟨hp,n,v,g,hpe⟩:=qMI hg ho h1;have hop:(if k == qL then qL else qMc)=qL\/(if k == qL then qL else qMc)=qMc:=by split <;> simp
   rw[hpe]at h4;subst h3;split at h4
   ·obtain rfl:=CR.ok_inj h4;refine⟨.mk _ _ _ _ _ _ _ _ (by simp) (by simp) ?_ (fun e=>?_),rfl⟩
    ·show KOk (if k == qL then qL else qMc) _ []
     rcases hop with e | e <;> rw[e]
     ·exact .inr (.inl ⟨rfl,by simp⟩)
     ·exact .inr (.inr (.inr ⟨by decide,by decide,by decide,by simp⟩))
    ·exfalso;replace e:(if k == qL then qL else qMc)=zD:=e;rcases hop with e' | e' <;> rw[e']at e <;> revert e <;> decide
   ·rename_i hkn;obtain⟨u,h5,h6⟩:=qL9 h4;obtain⟨_,h7,h8⟩:=qL9 h6;obtain⟨es,h9,h10⟩:=qL9 h8;obtain rfl:=CR.ok_inj h10;have h7:u≠zO:=of_decide_eq_true (qMb h7);have hu:=qMe hg ho h5;have hes:=qMf ks u es hk hu h9;have hki:(k == qL)=true:=by
     simp only[Bool.or_eq_true,bE,beq_iff_eq,decide_eq_true_eq,List.isEmpty_iff]at hsh hkk ⊢;rcases hkk with rfl | rfl
     ·rcases hsh with(⟨_,h⟩ | ⟨h,_⟩) | h
      ·subst h;simp at hkn
      ·revert h;decide
      ·revert h;intro h;exact absurd h.1.1 (by decide)
     ·rfl
    refine⟨.mk _ _ _ _ _ _ _ _ (fun k hk=>(hes k hk).1) (fun k hk=>by rw[(hes k hk).2];exact hu) ?_ (fun e=>?_),rfl⟩
    ·show KOk (if k == qL then qL else qMc) _ es
     rw[if_pos hki];refine .inr (.inl ⟨rfl,fun k hk=>?_⟩);rw[(hes k hk).2];intro e;rcases qYc hu with⟨e1,e2⟩ | e1 | e1 | e1 | e1
     ·exact h7 (Prod.ext e1 e2)
     all_goals omega
    ·exfalso;replace e:(if k == qL then qL else qMc)=zD:=e;rcases hop with e' | e' <;> rw[e']at e <;> revert e <;> decide
  split at h
  ·obtain⟨_,h1,h2⟩:=qL9 h;obtain⟨u,h5,h6⟩:=qL9 h2;obtain⟨es,h9,h10⟩:=qL9 h6;obtain rfl:=CR.ok_inj h10;have hu:=qMe hg ho h5;have hes:=qMf ks u es hk hu h9;exact⟨.mk _ _ _ _ _ _ _ _ (fun k hk=>(hes k hk).1) (fun k hk=>by rw[(hes k hk).2];exact hu) (.inl rfl) (fun e=>absurd e (by decide)),rfl⟩
  ·rename_i hn1 hn2 hn3 hn4;obtain⟨r,h1,h2⟩:=qL9 h;obtain⟨_,h3,h4⟩:=qL9 h2;obtain⟨es,h9,h10⟩:=qL9 h4;obtain rfl:=CR.ok_inj h10;have h3:=qMb h3;obtain⟨n,hr⟩:∃ n,qXx (qXs k x)=some n:=by
    simp only[Bool.or_eq_true,bE]at hsh hn1 hn2 hn3 hn4;rcases hsh with(⟨h,_⟩ | ⟨h,_⟩) | h
    ·rcases h with((h | h) | h) | h
     ·exact absurd h hn1
     ·exact absurd (.inl h) hn2
     ·exact absurd (.inr h) hn2
     ·exact absurd (.inl h) hn3
    ·rcases h with h | h
     ·exact absurd (.inr h) hn3
     ·exact absurd h hn4
    ·exact Option.isSome_iff_exists.1 h.1.2
   obtain⟨hu,hor⟩:=qMH hg ho hr hT h1 h3;obtain⟨c1,c2,c3,c4,_⟩:=qMJ hr;have hes:=qMf ks r.1 es hk hu h9;refine⟨.mk _ _ _ _ _ _ _ _ (fun k hk=>(hes k hk).1) (fun k hk=>by rw[(hes k hk).2];exact hu) ?_ (fun e=>absurd e c4),rfl⟩;rcases hor with⟨hc,rfl⟩ | ⟨hc,hrT⟩
   ·exact .inr (.inr (.inl ⟨by rw[c3,hc],rfl,r.1,fun k hk=>(hes k hk).2⟩))
   ·exact .inr (.inr (.inr ⟨c1,c2,by rw[c3,hc],fun k hk=>by rw[(hes k hk).2,hrT]⟩))
theorem qMf:∀ (ts:List qQ) (T:Ty) (es:List Ex),qZV ts=true->rt T.1 T.2=true->vD E ts T=.ok es->∀ e∈es,Snd e/\e.ty=T
 | [],T,es,_,_,h=>by rw[vD]at h;obtain rfl:=CR.ok_inj h;simp
 | t :: r,T,es,hw,hT,h=>by
  rw[qZV,bE]at hw;rw[vD]at h;obtain⟨a,h1,h2⟩:=qL9 h;obtain⟨l,h3,h4⟩:=qL9 h2;obtain rfl:=CR.ok_inj h4;intro e he;rcases List.mem_cons.1 he with rfl | he
  ·exact qMh t T _ hw.1 hT h1
  ·exact qMf r T l hw.2 hT h3 e he
end
end
inductive WfS:qQ->Prop
 | gd (k x:List UInt8) (m ln co:Int) (e:qQ) (bs:List qQ) (hk:k=kIf\/k=qA\/k=qF\/k=qD) (he:wfE e=true) (hb:∀ b∈bs,∀ u∈b.kids,WfS u):WfS (.mk k x m ln co (e :: bs))
 | call (x:List UInt8) (m ln co:Int) (ks:List qQ) (h:qZV ks=true):WfS (.mk zW x m ln co ks)
 | ret (x:List UInt8) (m ln co:Int) (ks:List qQ) (h:qZV ks=true):WfS (.mk qV x m ln co ks)
 | nondet (x:List UInt8) (m ln co:Int) (a:qQ) (h:wfE a=true) (ht:(a.kind == qL)=true\/a.kids=[]):WfS (.mk qW x m ln co [a])
 | assign (x:List UInt8) (m ln co:Int) (a b:qQ) (h:wfE a=true) (ht:(a.kind == qL)=true\/a.kids=[]) (hb:wfE b=true):WfS (.mk qP x m ln co [a,b])
 | result (x:List UInt8) (m ln co:Int) (a b:qQ) (h:wfE a=true) (ht:(a.kind == qL)=true\/a.kids=[]) (hb:qZV b.kids=true):WfS (.mk qN x m ln co [a,b])
 | loc (x:List UInt8) (m ln co:Int) (ks:List qQ) (h:yG ((ks.headD (.mk [] [] 0 0 0 [])).text)=true):WfS (.mk qE x m ln co ks)
inductive qMA:Sx->Prop
 | mk (op:List UInt8) (l c:Int) (tg es:List Ex) (fn:Int) (th el:List Sx) (h1:∀ e∈es,Snd e) (h2:(op=kIf\/op=qA\/op=qF\/op=qD)->∀ e∈es,e.ty.1=1)
  (h3:∀ t∈tg,(t.op=qMc\/t.op=qL)/\Snd t) (h4:op=qP->∀ t∈tg,∃ e,es=[e]/\e.ty=t.ty) (h5:∀ s∈th,qMA s) (h6:∀ s∈el,qMA s):qMA (.mk op l c tg es fn th el)
def RtV(l:List qI):Prop:=∀ v∈l,rt v.t.1 v.t.2=true
section
variable {gs:List qI} {fs:List kI} {ret:Ty} (hg:RtV gs) (hf:∀ f∈fs,RtV f.params) (hr:ret=noT\/rt ret.1 ret.2=true)
include hg
theorem qMj{own:List qI}(ho:RtV own){t:qQ}{e:Ex}(X:wfE t=true)(ht:(t.kind == qL)=true\/t.kids=[])(h:wJ ⟨gs,own⟩ t=.ok e):(e.op=qMc\/e.op=qL)/\Snd e/\rt e.ty.1 e.ty.2=true:=by
 unfold wJ at h;obtain⟨p,J,h2⟩:=qL9 h;obtain⟨z,h3,h4⟩:=qL9 h2;obtain rfl:=CR.ok_inj h4;obtain⟨hp,n,v,g,C⟩:=qMI (E:=⟨gs,own⟩) hg ho J;have o:(if t.kind == qL then qL else qMc)=qL\/(if t.kind == qL then qL else qMc)=qMc:=by split <;> simp
 have j:∀ e∈z,Snd e/\rt e.ty.1 e.ty.2=true/\e.ty.1≠1:=by
  unfold qQL at h3;split at h3
  ·obtain rfl:=CR.ok_inj h3;simp
  ·obtain⟨u,O,R⟩:=qL9 h3;obtain⟨_,A,U⟩:=qL9 R;have A:u≠zO:=of_decide_eq_true (qMb A);have G:=qMe (E:=⟨gs,own⟩) hg ho O;intro e V;have:=qMf (E:=⟨gs,own⟩) hg ho t.kids u z (wfE.kids X) G U e V;refine⟨this.1,by rw[this.2];exact G,?_⟩;rw[this.2];intro e;rcases qYc G with⟨s,e2⟩ | s | s | s | s
   ·exact A (Prod.ext s e2)
   all_goals omega
 rw[C];refine⟨?_, .mk _ _ _ _ _ _ _ _ (fun k hk=>(j k hk).1) (fun k hk=>(j k hk).2.1) ?_ (fun e=>?_),hp⟩
 ·show(if t.kind == qL then qL else qMc)=qMc\/(if t.kind == qL then qL else qMc)=qL
  exact o.symm
 ·rcases ht with ht | ht
  ·rw[if_pos ht];exact .inr (.inl ⟨rfl,fun k hk=>(j k hk).2.2⟩)
  ·have y:z=[]:=by
    unfold qQL at h3;rw[ht]at h3;have h3:CR.ok []=CR.ok z:=h3;exact(CR.ok_inj h3).symm
   subst y;rcases o with e | e <;> rw[e]
   ·exact .inr (.inl ⟨rfl,by simp⟩)
   ·exact .inr (.inr (.inr ⟨by decide,by decide,by decide,by simp⟩))
 ·exfalso;replace e:(if t.kind == qL then qL else qMc)=zD:=e;rcases o with I | I <;> rw[I]at e <;> revert e <;> decide
theorem qMm{own:List qI}(ho:RtV own):∀ (ts:List qQ) (j:List qI) (o:List Ex),qZV ts=true->RtV j->ts.length=j.length->wM ⟨gs,own⟩ ts j=.ok o->∀ e∈o,Snd e
 | [],j,o,_,_,_,h=>by rw[wM]at h;obtain rfl:=CR.ok_inj h;simp
 | t :: r,j,o,hw,hv,hl,h=>by
  rw[qZV,bE]at hw;rw[wM]at h;obtain⟨a,y,h2⟩:=qL9 h;obtain⟨l,h3,h4⟩:=qL9 h2;obtain rfl:=CR.ok_inj h4;cases j with
  | nil=>simp at hl
  | cons v j =>
   intro e s;rcases List.mem_cons.1 s with rfl | s
   ·exact(qMh (E:=⟨gs,own⟩) hg ho t _ _ hw.1 (hv v (by simp)) y).1
   ·exact qMm ho r j l hw.2 (fun u hu=>hv u (by simp[hu])) (by simpa using hl) h3 e s
omit hg in
theorem qMw{x:List UInt8}:∀ {l:List kI} {i:Nat} {v:kI} {j:Nat},qQN x i l=some (v,j)->v∈l
 | [],_,_,_,h=>by simp[qQN]at h
 | a :: r,i,v,j,h=>by
  rw[qQN]at h;split at h
  ·injection h with h;injection h with h1 h2;subst h1;simp
  ·exact List.mem_cons_of_mem _ (qMw h)
omit hg in
include hf in
theorem qMo{t:qQ}{r:kI×Nat}(h:wI fs t=.ok r):RtV r.1.params/\t.kids.length=r.1.params.length:=by
 unfold wI at h;split at h
 ·rename_i a i o;obtain⟨_,j,h2⟩:=qL9 h;obtain rfl:=CR.ok_inj h2;exact⟨hf a (qMw o),of_decide_eq_true (qMb j)⟩
 ·cases h
omit hg in
theorem qMF{t:qQ}(h:yG ((t.kids.headD (.mk [] [] 0 0 0 [])).text)=true):rt (qZr t).t.1 (qZr t).t.2=true:=qMB h
omit hg in
theorem local_rt{own j:List qI}{t:qQ}(ho:RtV own)(ht:yG ((t.kids.headD (.mk [] [] 0 0 0 [])).text)=true)(h:qJJ own t=.ok j):RtV j:=by
 unfold qJJ at h;obtain⟨_,_,o⟩:=qL9 h;obtain⟨_,_,h2⟩:=qL9 o;obtain rfl:=CR.ok_inj h2;intro v hv;rcases List.mem_append.1 hv with hv | hv
 ·exact ho v hv
 ·obtain rfl:v=qZr t:=by simpa using hv
  exact qMF ht
include hf hr
theorem st_snd(n:Nat)(y:∀ (b:qQ) (own:List qI) (r:List Sx×List qI),SizeOf.sizeOf b < n->(∀ u∈b.kids,WfS u)->RtV own->blC gs fs ret b own=.ok r->(∀ s∈r.1,qMA s)/\RtV r.2):∀ (t:qQ) (own:List qI) (r:Sx×List qI),SizeOf.sizeOf t < n+1->WfS t->(t.kind == qE)=false->RtV own->stC gs fs ret t own=.ok r->qMA r.1/\RtV r.2
 | .mk k x m ln co ks,own,r,hn,hw,hk,ho,h=>by
  rw[stC.eq_def]at h;simp only at h;cases hw with
  | loc=>cases hk
  | call _ _ _ _ _ hk =>
   rw[if_neg (by decide),if_neg (by decide),if_pos (by decide)]at h;obtain⟨a,j,h2⟩:=qL9 h;obtain⟨z,h3,h4⟩:=qL9 h2;obtain rfl:=CR.ok_inj h4;obtain⟨c1,c2⟩:=qMo hf j;exact⟨.mk _ _ _ _ _ _ _ _ (qMm hg ho ks _ z hk c1 c2 h3) (fun e=>by exfalso;revert e;decide) (by simp) (by simp) (by simp) (by simp),ho⟩
  | ret _ _ _ _ _ hk =>
   rw[if_neg (by decide),if_neg (by decide),if_neg (by decide),if_neg (by decide),if_pos (by decide)]at h;obtain⟨_,j,h2⟩:=qL9 h;obtain⟨z,h3,h4⟩:=qL9 h2;obtain rfl:=CR.ok_inj h4;refine⟨.mk _ _ _ _ _ _ _ _ (fun e o=>?_) (fun e=>by exfalso;revert e;decide) (by simp) (by simp) (by simp) (by simp),ho⟩;cases ks with
   | nil =>
    rw[vD]at h3;obtain rfl:=CR.ok_inj h3;simp at o
   | cons a ks =>
    have j:=qMb j;have I:ret≠noT:=by
     intro e;rw[e]at j;simp at j
    exact(qMf (E:=⟨gs,own⟩) hg ho _ ret z hk (hr.resolve_left I) h3 e o).1
  | nondet _ _ _ _ a ha ht =>
   rw[if_neg (by decide),if_pos (by decide)]at h;obtain⟨p,j,h2⟩:=qL9 h;obtain rfl:=CR.ok_inj h2;have ht:=qMj hg ho ha ht j;exact⟨.mk _ _ _ _ _ _ _ _ (by simp) (by simp) (fun t h=>by obtain rfl:t=p:=(by simpa using h);exact⟨ht.1,ht.2.1⟩) (fun e=>by exfalso;revert e;decide) (by simp) (by simp),ho⟩
  | assign _ _ _ _ a b ha ht hb =>
   rw[if_pos (by decide)]at h;obtain⟨p,j,h2⟩:=qL9 h;obtain⟨e,h3,h4⟩:=qL9 h2;obtain rfl:=CR.ok_inj h4;have ht:=qMj hg ho ha ht j;have o:=qMh (E:=⟨gs,own⟩) hg ho _ _ _ hb ht.2.2 h3;exact⟨.mk _ _ _ _ _ _ _ _ (fun x h=>by obtain rfl:x=e:=(by simpa using h);exact o.1) (fun e=>by exfalso;revert e;decide) (fun t h=>by obtain rfl:t=p:=(by simpa using h);exact⟨ht.1,ht.2.1⟩)
    (fun _ t h=>by obtain rfl:t=p:=(by simpa using h);exact⟨e,rfl,o.2⟩) (by simp) (by simp),ho⟩
  | result _ _ _ _ a b ha ht hb =>
   rw[if_neg (by decide),if_neg (by decide),if_neg (by decide),if_pos (by decide)]at h;obtain⟨p,j,h2⟩:=qL9 h;obtain⟨c,h3,h4⟩:=qL9 h2;obtain⟨_,_,C⟩:=qL9 h4;obtain⟨z,G,R⟩:=qL9 C;obtain rfl:=CR.ok_inj R;have ht:=qMj hg ho ha ht j;obtain⟨c1,c2⟩:=qMo hf h3;exact⟨.mk _ _ _ _ _ _ _ _ (qMm hg ho _ _ z hb c1 c2 G) (fun e=>by exfalso;revert e;decide) (fun t h=>by obtain rfl:t=p:=(by simpa using h);exact⟨ht.1,ht.2.1⟩) (fun e=>by exfalso;revert e;decide) (by simp) (by simp),ho⟩
  | gd _ _ _ _ _ e bs hk' o hb =>
   have U:(k == qP)=false:=by rcases hk' with rfl | rfl | rfl | rfl <;> rfl
   have V:(k == qW)=false:=by rcases hk' with rfl | rfl | rfl | rfl <;> rfl
   have X:(k == zW)=false:=by rcases hk' with rfl | rfl | rfl | rfl <;> rfl
   have Y:(k == qN)=false:=by rcases hk' with rfl | rfl | rfl | rfl <;> rfl
   have Z:(k == qV)=false:=by rcases hk' with rfl | rfl | rfl | rfl <;> rfl
   have J:k≠qP:=by rcases hk' with rfl | rfl | rfl | rfl <;> decide
   simp only[U,V,X,Y,Z,bF,if_false]at h;match bs,hb,h with
   | [],hb,h =>
    simp only at h;obtain⟨a,j,h2⟩:=qL9 h;obtain rfl:=CR.ok_inj h2;have hs:=qMh (E:=⟨gs,own⟩) hg ho _ _ _ o (by rfl) j;exact⟨.mk _ _ _ _ _ _ _ _ (fun x h=>by obtain rfl:x=a:=(by simpa using h);exact hs.1) (fun _ x h=>by obtain rfl:x=a:=(by simpa using h);rw[hs.2];rfl) (by simp) (fun e=>absurd e J) (by simp) (by simp),ho⟩
   | [b],hb,h =>
    simp only at h;obtain⟨a,j,h2⟩:=qL9 h;obtain⟨q,h3,h4⟩:=qL9 h2;obtain rfl:=CR.ok_inj h4;have hs:=qMh (E:=⟨gs,own⟩) hg ho _ _ _ o (by rfl) j;obtain⟨b1,A⟩:=y b own q (by simp at hn;omega) (hb b (by simp)) ho h3;exact⟨.mk _ _ _ _ _ _ _ _ (fun x h=>by obtain rfl:x=a:=(by simpa using h);exact hs.1) (fun _ x h=>by obtain rfl:x=a:=(by simpa using h);rw[hs.2];rfl) (by simp) (fun e=>absurd e J) b1 (by simp),A⟩
   | b :: c :: r,hb,h =>
    simp only at h;obtain⟨a,j,h2⟩:=qL9 h;obtain⟨q,h3,h4⟩:=qL9 h2;obtain⟨q2,C,G⟩:=qL9 h4;obtain rfl:=CR.ok_inj G;have hs:=qMh (E:=⟨gs,own⟩) hg ho _ _ _ o (by rfl) j;obtain⟨b1,A⟩:=y b own q (by simp at hn;omega) (hb b (by simp)) ho h3;obtain⟨d1,O⟩:=y c q.2 q2 (by simp at hn;omega) (hb c (by simp)) A C;exact⟨.mk _ _ _ _ _ _ _ _ (fun x h=>by obtain rfl:x=a:=(by simpa using h);exact hs.1) (fun _ x h=>by obtain rfl:x=a:=(by simpa using h);rw[hs.2];rfl) (by simp) (fun e=>absurd e J) b1 d1,O⟩
theorem sts_snd:∀ (n:Nat) (ts:List qQ) (own:List qI) (r:List Sx×List qI),SizeOf.sizeOf ts < n->(∀ u∈ts,WfS u)->RtV own->qXJ gs fs ret ts own=.ok r->(∀ s∈r.1,qMA s)/\RtV r.2:=by
 intro n;induction n with
 | zero=>intro ts own r G;omega
 | succ n ih =>
  have A:∀ (b:qQ) (own:List qI) (r:List Sx×List qI),SizeOf.sizeOf b < n->(∀ u∈b.kids,WfS u)->RtV own->blC gs fs ret b own=.ok r->(∀ s∈r.1,qMA s)/\RtV r.2:=by
   intro b own r hb o ho h;obtain⟨k,x,m,ln,co,ks⟩:=b;rw[blC]at h;simp only[qQ.mk.sizeOf_spec]at hb;exact ih ks own r (by omega) o ho h
  intro ts;induction ts with
  | nil=>intro own r _ _ ho h;rw[qXJ]at h;obtain rfl:=CR.ok_inj h;exact⟨by simp,ho⟩
  | cons t rr ihl =>
   intro own r G o ho h;simp only[List.cons.sizeOf_spec]at G;rw[qXJ]at h;have ht:=o t (by simp);split at h
   ·rename_i hl;obtain⟨y,z,h2⟩:=qL9 h;have j:yG ((t.kids.headD (.mk [] [] 0 0 0 [])).text)=true:=by
     cases ht with
     | loc _ _ _ _ _ j=>exact j
     | gd k _ _ _ _ _ _ hk=>rcases hk with rfl | rfl | rfl | rfl <;> cases hl
     | call=>cases hl
     | ret=>cases hl
     | nondet=>cases hl
     | assign=>cases hl
     | result=>cases hl
    exact ihl y r (by omega) (fun u hu=>o u (by simp[hu])) (local_rt ho j z) h2
   ·rename_i hl;obtain⟨s,z,h2⟩:=qL9 h;obtain⟨q,h3,h4⟩:=qL9 h2;obtain rfl:=CR.ok_inj h4;obtain⟨I,J⟩:=st_snd hg hf hr n A t own s (by omega) ht (by simpa using hl) ho z;obtain⟨b1,O⟩:=ihl s.2 q (by omega) (fun u hu=>o u (by simp[hu])) J h3;refine⟨fun x C=>?_,O⟩;rcases List.mem_cons.1 C with rfl | C
    ·exact I
    ·exact b1 x C
end
def BlWf(rec:WT->qQ->Ws):Prop:=∀ t ws,rec .block t=some ws->qZl t->∀ u∈t.kids,WfS u
section
variable {rec:WT->qQ->Ws}
theorem qMg{t:qQ}{ws:List (List UInt8)}(h:wU rec t=some ws):(t.kind == qL)=true\/t.kids=[]:=by
 obtain⟨k,x,m,ln,co,ks⟩:=t;rw[qKN]at h;split at h
 ·rename_i o;exact .inl o
 ·obtain⟨j,_⟩:=zN h;simp only[bE,beq_iff_eq]at j;exact .inr (List.eq_nil_of_length_eq_zero j.2)
theorem wfS_of(C:qMD rec)(hb:BlWf rec){t:qQ}{ws:List (List UInt8)}(h:qJr rec t=some ws)(X:qZl t):WfS t:=by
 obtain⟨k,x,m,ln,co,ks⟩:=t;have hN:=qQx X;have j:=fun(t:qQ) (ht:t∈ks)=>hN.2.2.2.2.2.mem t ht
 rw[wX]at h;split at h
 ·rename_i s;rw[beq_iff_eq]at s;subst s;rw[qJb]at h;obtain⟨_,o⟩:=zN h;rcases ks with _ | ⟨e,_ | ⟨b,_ | ⟨c,_ | ⟨d,r⟩⟩⟩⟩
  ·simp at o
  ·simp at o
  ·simp only at o;obtain⟨h2,w,h3,h4⟩:=qKG C o (j e (by simp));exact .gd _ x m ln co e [b] (.inl rfl) h2 fun u hu=>by
    obtain rfl:u=b:=by simpa using hu
    exact hb _ _ h3 (j _ (by simp))
  ·simp only at o;obtain⟨y,z,h2,h3,rfl⟩:=qK o;obtain⟨_,Y,_,h4,rfl⟩:=qK h3;obtain⟨G,w,I,O⟩:=qKG C h2 (j e (by simp));refine .gd _ x m ln co e [b,c] (.inl rfl) G fun u hu=>?_
   have V:u=b\/u=c:=by simpa using hu
   rcases V with rfl | rfl
   ·exact hb _ _ I (j _ (by simp))
   ·exact hb _ _ h4 (j _ (by simp))
  ·simp at o
 split at h
 ·rename_i s;rw[beq_iff_eq]at s;subst s;obtain⟨A,o⟩:=zN h;rcases ks with _ | ⟨e,_ | ⟨b,_ | ⟨c,r⟩⟩⟩
  ·simp at A
  ·simp at A
  ·obtain⟨h2,w,h3,h4⟩:=qKG C o (j e (by simp));exact .gd _ x m ln co e [b] (.inr (.inl rfl)) h2 fun u hu=>by
    obtain rfl:u=b:=by simpa using hu
    exact hb _ _ h3 (j _ (by simp))
  ·simp at A
 split at h
 ·rename_i s;rw[beq_iff_eq]at s;subst s;obtain⟨_,o⟩:=zN h;obtain⟨y,_,h2,_,_⟩:=qK o;refine .loc x m ln co ks ?_;unfold vY at h2;split at h2
  ·rename_i u r hk;obtain⟨h3,_⟩:=zN h2;simp only[bE,Bool.or_eq_true,bA,bF,or_false]at h3;have U:ks=u :: r:=hk;rw[U];exact h3.2
  ·cases h2
 split at h
 ·rename_i s;rw[beq_iff_eq]at s;subst s;obtain⟨y,_,o,_,_⟩:=qK h;exact .call x m ln co ks (qMl C o X).2
 split at h
 ·rename_i s;rw[beq_iff_eq]at s;subst s;obtain⟨A,o⟩:=zN h;simp only[bE,decide_eq_true_eq]at A;obtain⟨y,_,h2,_,_⟩:=qK o;obtain⟨_,z,_,h3,_⟩:=qK h2;exact .ret x m ln co ks (qMC fun t ht=>by
   obtain⟨w,hw⟩:=qKC h3 t ht;exact C _ _ hw (j t ht))
 split at h
 ·rename_i s;have R:k=qF\/k=qD:=by simpa using s
  rcases ks with _ | ⟨e,_ | ⟨b,r⟩⟩
  ·simp at h
  ·simp only at h;obtain⟨_,o⟩:=zN h;obtain⟨y,_,h2,_,_⟩:=qK o;obtain⟨_,z,_,h3,_⟩:=qK h2;obtain⟨q,_,h4,_,_⟩:=qK h3;exact .gd k x m ln co e [] (by rcases R with h | h <;> simp[h]) (C _ _ h4 (j e (by simp))) (by simp)
  ·simp at h
 ·obtain⟨y,_,o,_,_⟩:=qK h;rw[qK7]at o;obtain⟨_,h2⟩:=zN o;rcases ks with _ | ⟨a,_ | ⟨b,_ | ⟨c,r⟩⟩⟩
  ·simp at h2
  ·simp only at h2;obtain⟨h3,h4⟩:=zN h2;rw[beq_iff_eq]at h3;subst h3;obtain⟨z,_,G,_,_⟩:=qK h4;exact .nondet x m ln co a (qKf C G (j a (by simp))) (qMg G)
  ·simp only at h2;split at h2
   ·rename_i h3;rw[beq_iff_eq]at h3;subst h3;obtain⟨z,Y,G,I,_⟩:=qK h2;obtain⟨_,z3,_,O,_⟩:=qK I;exact .assign x m ln co a b (qKf C G (j a (by simp))) (qMg G) (C _ _ O (j b (by simp)))
   ·obtain⟨h3,h4⟩:=zN h2;rw[beq_iff_eq]at h3;subst h3;obtain⟨z,Y,G,I,_⟩:=qK h4;obtain⟨_,z3,_,O,_⟩:=qK I;have J:=j b (by simp);obtain⟨bk,bx,bm,bl,bc,Z⟩:=b;have hB:=qQx J;exact .result x m ln co a _ (qKf C G (j a (by simp))) (qMg G) (qMl C O J).2
  ·simp at h2
theorem blWf_of(s:qMD rec)(hb:BlWf rec){t:qQ}{ws:List (List UInt8)}(h:qVv rec t=some ws)(A:qZl t):∀ u∈t.kids,WfS u:=by
 obtain⟨k,x,m,ln,co,ks⟩:=t;have hN:=qQx A;rw[qYY]at h;obtain⟨_,o⟩:=zN h;obtain⟨_,y,_,h2,rfl⟩:=qK o;obtain⟨z,_,h3,_,rfl⟩:=qK h2;intro u j;obtain⟨w,C,_⟩:=qJM h3 u j;exact wfS_of s hb C (hN.2.2.2.2.2.mem u j)
end
theorem runW_wf:∀ n,BlWf (qZB n)
 | 0,t,ws,h,_=>by simp[qZB]at h
 | n+1,t,ws,h,hn=>blWf_of (qUs n) (runW_wf n) (by simpa[qZB,stepW]using h) hn
theorem qMd{j:Bool}{t:qQ}{ws:List (List UInt8)}(h:vY j t=some ws):yG ((t.kids.headD (.mk [] [] 0 0 0 [])).text)=true\/(j=true/\(t.kids.headD (.mk [] [] 0 0 0 [])).text=zA):=by
 unfold vY at h;split at h
 ·rename_i u r o;obtain⟨h3,_⟩:=zN h;simp only[bE,Bool.or_eq_true,beq_iff_eq]at h3;rw[o];exact h3.2
 ·cases h
theorem void_noT:tyL zA=noT:=by kernel_rfl
structure HdW(a:qQ):Prop where
 fn:(a.kind == qC)=true->(tyL ((a.kids.headD (.mk [] [] 0 0 0 [])).text)=noT\/yG ((a.kids.headD (.mk [] [] 0 0 0 [])).text)=true)/\(∀ p∈a.kids.dropLast.drop 1,yG ((p.kids.headD (.mk [] [] 0 0 0 [])).text)=true)/\∀ u∈(a.kids.getLastD (.mk [] [] 0 0 0 [])).kids,WfS u
 gl:(a.kind == qC)=false->yG ((a.kids.headD (.mk [] [] 0 0 0 [])).text)=true/\0<=(a.kids.getLastD (.mk [] [] 0 0 0 [])).num
theorem hdw_of{n:Nat}{t:qQ}{ws:List (List UInt8)}(h:qQO n t=some ws)(hn:qZl t):∀ a∈t.kids,HdW a:=by
 obtain⟨k,x,m,ln,co,ks⟩:=t;have hN:=qQx hn;have X:=hN.2.2.2.2.2.mem;rw[qV9]at h;obtain⟨_,s⟩:=zN h;intro a ha;obtain⟨w,o,_⟩:=qJM s a ha;have U:=X a ha;refine⟨fun hf=>?_,fun hf=>?_⟩
 ·rw[hf]at o;obtain⟨I,R,O,J,G,j⟩:=a;have V:=qQx U;rcases j with _ | ⟨u,_ | ⟨v,r⟩⟩
  ·simp[kA,qQ.kids]at o
  ·simp[kA,qQ.kids]at o
  ·have Z:v :: r=(v :: r).dropLast++[(v :: r).getLast (List.cons_ne_nil v r)]:=(List.dropLast_concat_getLast _).symm;generalize (v :: r).dropLast=ps at Z;generalize (v :: r).getLast (List.cons_ne_nil v r)=b at Z;rw[Z]at o V ⊢;simp only[if_true]at o;rw[fn_mk]at o;obtain⟨_,s⟩:=zN o;obtain⟨_,y1,hd,h2,_⟩:=qK s;obtain⟨_,y2,_,h3,_⟩:=qK h2;obtain⟨y3,y4,h4,h5,_⟩:=qK h3;obtain⟨_,y5,_,h6,_⟩:=qK h5;have A:=V.2.2.2.2.2.mem;have Y:(qQ.mk I R O J G (u :: (ps++[b]))).kids.dropLast.drop 1=ps:=by
    show((u :: (ps++[b])).dropLast).drop 1=ps
    rw[show u :: (ps++[b])=(u :: ps)++[b]from rfl,List.dropLast_concat];rfl
   have d2:(qQ.mk I R O J G (u :: (ps++[b]))).kids.getLastD (.mk [] [] 0 0 0 [])=b:=by
    show(u :: (ps++[b])).getLastD _=b
    rw[show u :: (ps++[b])=(u :: ps)++[b]from rfl,List.getLastD_eq_getLast?,List.getLast?_concat];rfl
   rw[Y,d2];refine⟨?_,fun p hp=>?_,runW_wf n b y5 h6 (A b (by simp))⟩
   ·rcases qMd hd with h | ⟨_,h⟩
    ·exact .inr h
    ·exact .inl (by rw[h];exact void_noT)
   ·obtain⟨w,o⟩:=qKC h4 p hp;obtain⟨_,h7⟩:=zN o;rcases qMd h7 with h | ⟨h,_⟩
    ·exact h
    ·cases h
 ·rw[hf]at o;obtain⟨I,R,O,J,G,j⟩:=a;have V:=qQx U;have A:=V.2.2.2.2.2.mem;simp only[bF,if_false]at o;rw[qKF]at o;obtain⟨_,s⟩:=zN o;have hb:∀ u∈j,0<=u.num:=fun u hu=>by
   have:=A u hu;obtain⟨uk,ux,um,ul,uc,d3⟩:=u;exact(qQx this).2.2.1
  have C:0<=((qQ.mk I R O J G j).kids.getLastD (.mk [] [] 0 0 0 [])).num:=by
   show 0<=(j.getLastD _).num
   rw[List.getLastD_eq_getLast?];cases hl:j.getLast? with
   | none=>exact Int.le_refl _
   | some z=>exact hb z (List.mem_of_getLast? hl)
  refine⟨?_,C⟩;have hd:∃ w,vY false (qQ.mk I R O J G j)=some w:=by
   rcases j with _ | ⟨u,_ | ⟨m',_ | ⟨z,r⟩⟩⟩
   ·cases s
   ·obtain⟨y,_,h2,_⟩:=qK s;exact⟨y,h2⟩
   ·obtain⟨y,_,h2,_⟩:=qK s;obtain⟨y1,_,h3,_⟩:=qK h2;exact⟨y1,h3⟩
   ·cases s
  obtain⟨w,hd⟩:=hd;rcases qMd hd with h | ⟨h,_⟩
  ·exact h
  ·cases h
structure HdO(S:HdS):Prop where
 gs:∀ v∈S.gs,rt v.t.1 v.t.2=true/\0<=v.size
 fs:∀ f∈S.fs,RtV f.params/\(f.t=noT\/rt f.t.1 f.t.2=true)
theorem qMy:∀ (ts:List qQ) (acc r:List qI),(∀ p∈ts,yG ((p.kids.headD (.mk [] [] 0 0 0 [])).text)=true)->RtV acc->yH ts acc=.ok r->RtV r
 | [],acc,r,_,ha,h=>by rw[yH]at h;obtain rfl:=CR.ok_inj h;exact ha
 | t :: ts,acc,r,ht,ha,h=>by
  rw[yH]at h;obtain⟨_,_,j⟩:=qL9 h;obtain⟨_,_,h2⟩:=qL9 j;refine qMy ts _ r (fun p hp=>ht p (by simp[hp])) (fun v hv=>?_) h2;rcases List.mem_append.1 hv with hv | hv
  ·exact ha v hv
  ·obtain rfl:v=qZr t:=by simpa using hv
   exact qMF (ht t (by simp))
theorem qMG:∀ (ts:List qQ) (S S':HdS),(∀ a∈ts,HdW a)->HdO S->yS ts S=.ok S'->HdO S'
 | [],S,S',_,hSq,h=>by rw[yS]at h;obtain rfl:=CR.ok_inj h;exact hSq
 | t :: r,S,S',ht,hSq,h=>by
  rw[yS]at h;obtain⟨A,j,h2⟩:=qL9 h;have z:=ht t (by simp);refine qMG r A S' (fun a ha=>ht a (by simp[ha])) ?_ h2;split at j
  ·rename_i hf;obtain⟨o,s,_⟩:=z.fn hf;unfold wF at j;obtain⟨_,_,h3⟩:=qL9 j;obtain⟨_,_,h4⟩:=qL9 h3;obtain⟨ps,y,C⟩:=qL9 h4;obtain rfl:=CR.ok_inj C;refine⟨hSq.gs,fun f hf=>?_⟩;rcases List.mem_append.1 hf with hf | hf
   ·exact hSq.fs f hf
   ·have hp:=qMy _ _ _ s (by intro v hv;simp at hv) y;have G:f=⟨t.text,tyL ((t.kids.headD (.mk [] [] 0 0 0 [])).text),ps⟩:=by simpa using hf
    subst G;exact⟨hp,o.imp id qMB⟩
  ·rename_i hf;obtain⟨o,s⟩:=z.gl (by simpa using hf);unfold qZ9 at j;obtain⟨_,_,h3⟩:=qL9 j;obtain⟨_,_,h4⟩:=qL9 h3;obtain⟨_,_,y⟩:=qL9 h4;obtain rfl:=CR.ok_inj y;refine⟨fun v hv=>?_,hSq.fs⟩;rcases List.mem_append.1 hv with hv | hv
   ·exact hSq.gs v hv
   ·rw[List.mem_singleton]at hv;subst hv;refine⟨qMB o,?_⟩;show 0<=(if _ then _ else _:Int)
    split
    ·exact s
    ·exact Int.le_refl _
section
variable {gs:List qI} {fs:List kI} {ret:Ty}
theorem sts_grow:∀ (n:Nat) (ts:List qQ) (own:List qI) (r:List Sx×List qI),SizeOf.sizeOf ts < n->qXJ gs fs ret ts own=.ok r->own.length<=r.2.length:=by
 intro n;induction n with
 | zero=>intro ts own r y;omega
 | succ n ih =>
  have o:∀ (b:qQ) (own:List qI) (r:List Sx×List qI),SizeOf.sizeOf b < n->blC gs fs ret b own=.ok r->own.length<=r.2.length:=by
   intro b own r hb h;obtain⟨k,x,m,ln,co,ks⟩:=b;rw[blC]at h;simp only[qQ.mk.sizeOf_spec]at hb;exact ih ks own r (by omega) h
  have A:∀ (t:qQ) (own:List qI) (r:Sx×List qI),SizeOf.sizeOf t < n+1->stC gs fs ret t own=.ok r->own.length<=r.2.length:=by
   intro t own r y h;obtain⟨k,x,m,ln,co,ks⟩:=t;rw[stC.eq_def]at h;simp only at h;split at h
   ·obtain⟨_,_,h⟩:=qL9 h;obtain⟨_,_,h⟩:=qL9 h;obtain rfl:=CR.ok_inj h;exact Nat.le_refl _
   split at h
   ·obtain⟨_,_,h⟩:=qL9 h;obtain rfl:=CR.ok_inj h;exact Nat.le_refl _
   split at h
   ·obtain⟨_,_,h⟩:=qL9 h;obtain⟨_,_,h⟩:=qL9 h;obtain rfl:=CR.ok_inj h;exact Nat.le_refl _
   split at h
   ·obtain⟨_,_,h⟩:=qL9 h;obtain⟨_,_,h⟩:=qL9 h;obtain⟨_,_,h⟩:=qL9 h;obtain⟨_,_,h⟩:=qL9 h;obtain rfl:=CR.ok_inj h;exact Nat.le_refl _
   split at h
   ·obtain⟨_,_,h⟩:=qL9 h;obtain⟨_,_,h⟩:=qL9 h;obtain rfl:=CR.ok_inj h;exact Nat.le_refl _
   match ks,h with
   | [],h=>obtain rfl:=CR.ok_inj h;exact Nat.le_refl _
   | [a],h=>obtain⟨_,_,h⟩:=qL9 h;obtain rfl:=CR.ok_inj h;exact Nat.le_refl _
   | [a,b],h =>
    obtain⟨_,_,h⟩:=qL9 h;obtain⟨q,j,h⟩:=qL9 h;obtain rfl:=CR.ok_inj h;exact o b own q (by simp at y;omega) j
   | a :: b :: c :: rr,h =>
    obtain⟨_,_,h⟩:=qL9 h;obtain⟨q,j,h⟩:=qL9 h;obtain⟨C,h2,h⟩:=qL9 h;obtain rfl:=CR.ok_inj h;exact Nat.le_trans (o b own q (by simp at y;omega) j) (o c q.2 C (by simp at y;omega) h2)
  intro ts;induction ts with
  | nil=>intro own r _ h;rw[qXJ]at h;obtain rfl:=CR.ok_inj h;exact Nat.le_refl _
  | cons t rr ihl =>
   intro own r y h;simp only[List.cons.sizeOf_spec]at y;rw[qXJ]at h;split at h
   ·obtain⟨z,j,h2⟩:=qL9 h;refine Nat.le_trans ?_ (ihl z r (by omega) h2);unfold qJJ at j;obtain⟨_,_,j⟩:=qL9 j;obtain⟨_,_,j⟩:=qL9 j;obtain rfl:=CR.ok_inj j;simp
   ·obtain⟨s,j,h2⟩:=qL9 h;obtain⟨q,h3,h4⟩:=qL9 h2;obtain rfl:=CR.ok_inj h4;exact Nat.le_trans (A t own s (by omega) j) (ihl s.2 q (by omega) h3)
theorem bl_grow{t:qQ}{own:List qI}{r:List Sx×List qI}(h:blC gs fs ret t own=.ok r):own.length<=r.2.length:=by
 rw[qMn]at h;exact sts_grow _ t.kids own r (Nat.lt_succ_self _) h
end
structure FnSnd(f:qQ2):Prop where
 body:∀ s∈f.body,qMA s
 params:f.params<=f.vars.length
theorem qMi{gs:List qI}{fs:List kI}(hg:RtV gs)(hf:∀ f∈fs,RtV f.params):∀ (ts:List qQ) (hs:List kI) (l:List qQ2),(∀ a∈ts,HdW a)->(∀ f∈hs,RtV f.params/\(f.t=noT\/rt f.t.1 f.t.2=true))->qXI ts=hs.length->vG gs fs ts hs=.ok l ->
 (∀ f∈l,FnSnd f)/\l.map (fun f=>(f.name,f.params))=hs.map (fun h=>(h.name,(h.params.length:Int)))
 | [],hs,l,_,_,hc,h=>by
  rw[vG]at h;obtain rfl:=CR.ok_inj h;cases hs with
  | nil=>exact⟨by simp,rfl⟩
  | cons a r=>simp[qXI]at hc
 | t :: r,hs,l,hw,ho,hc,h=>by
  rw[vG.eq_def]at h;simp only at h;have ht:=hw t (by simp);split at h
  ·rename_i s;have o:qXI (t :: r)=qXI r+1:=by simp[qXI,List.filter_cons,s]
   cases hs with
   | nil=>rw[o]at hc;simp at hc
   | cons a hs =>
    simp only at h;obtain⟨b,y,h2⟩:=qL9 h;obtain⟨l',h3,h4⟩:=qL9 h2;obtain rfl:=CR.ok_inj h4;obtain⟨_,_,z⟩:=ht.fn s;obtain⟨I,J⟩:=ho a (by simp);have A:=bl_grow y;rw[qMn]at y;obtain⟨O,R⟩:=sts_snd hg hf J _ _ a.params b (Nat.lt_succ_self _) z I y;obtain⟨C,G⟩:=qMi hg hf r hs l' (fun x hx=>hw x (by simp[hx])) (fun f j=>ho f (by simp[j])) (by rw[o]at hc;simpa using hc) h3;refine⟨fun f j=>?_,by simp only[List.map_cons,G]⟩;rcases List.mem_cons.1 j with rfl | j
    ·exact⟨O,by show(a.params.length:Int)<=(b.2.length:Int);omega⟩
    ·exact C f j
  ·rename_i s;have o:qXI (t :: r)=qXI r:=by simp[qXI,List.filter_cons,s]
   exact qMi hg hf r hs l (fun x hx=>hw x (by simp[hx])) ho (by rw[<-o];exact hc) h
theorem qMv{x:List UInt8}:∀ {l:List kI} {i:Nat} {v:kI} {j:Nat},qQN x i l=some (v,j)->i<=j/\l[j - i]? = some v/\v.name=x
 | [],_,_,_,h=>by simp[qQN]at h
 | a :: r,i,v,j,h=>by
  rw[qQN]at h;split at h
  ·rename_i s;injection h with h;injection h with o h2;subst o h2;exact⟨Nat.le_refl _,by simp,by simpa using s⟩
  ·obtain⟨o,h2,h3⟩:=qMv h;refine⟨by omega,?_,h3⟩;rw[show j - i=(j - (i+1))+1 by omega,List.getElem?_cons_succ];exact h2
theorem check_snd{n:Nat}{t:qQ}{ws:List (List UInt8)}{p:PrD}(h:qQO n t=some ws)(O:qZl t)(hc:qZb t=.ok p) :
 (∀ f∈p.funcs,FnSnd f)/\(∀ v∈p.globals,0<=v.size)/\∃ (i:Nat) (f:qQ2),p.main=i/\p.funcs[i]? = some f/\f.name=qZf/\f.params=0:=by
 have C:=hdw_of h O;rw[qMt]at hc;obtain⟨S,A,h2⟩:=qL9 hc;obtain⟨l,h3,h4⟩:=qL9 h2;obtain⟨i,y,I⟩:=qL9 h4;obtain rfl:=CR.ok_inj I;have z:=qMG _ _ S C ⟨by simp,by simp⟩ A;have o:=qKH A;simp only[lZ,Nat.zero_add]at o;obtain⟨b1,G⟩:=qMi (fun v hv=>(z.gs v hv).1) (fun f hf=>(z.fs f hf).1) t.kids S.fs l C z.fs o.symm h3;refine⟨b1,fun v hv=>(z.gs v hv).2,?_⟩;unfold qVd at y;split at y
 ·rename_i hd j J;split at y
  ·rename_i hp;obtain rfl:=CR.ok_inj y;obtain⟨_,g1,g2⟩:=qMv J;rw[Nat.sub_zero]at g1;have hm:=congrArg (fun l=>l[j]?) G;simp only[List.getElem?_map,g1,Option.map_some]at hm;cases s:l[j]? with
   | none=>rw[s]at hm;simp at hm
   | some f =>
    rw[s]at hm;simp only[Option.map_some,Option.some.injEq,Prod.mk.injEq]at hm;exact⟨j,f,rfl,s,hm.1.trans g2,by rw[hm.2,hp];rfl⟩
  ·cases y
 ·cases y
theorem read_snd{s:List UInt8}{p:PrD}(h:qXN s=.ok p):(∀ f∈p.funcs,FnSnd f)/\(∀ v∈p.globals,0<=v.size)/\∃ (i:Nat) (f:qQ2),p.main=i/\p.funcs[i]? = some f/\f.name=qZf/\f.params=0:=by
 unfold qXN at h;split at h
 ·rename_i t l hr;obtain⟨hN,n,ws,j,_,_⟩:=qMq hr;exact check_snd j hN h
 ·cases h
 ·cases h
def qYi(a b:qI):Bool:=a.name == b.name && ((a.t.1 == b.t.1 && a.t.2 == b.t.2) && a.size == b.size)
def kC:List qI->List qI->Bool
 | [],us=>us.isEmpty
 | t :: ts,us=>match us with
  | []=>false
  | u :: us=>qYi t u && kC ts us
mutual
def qKs:Ex->Ex->Bool
 | .mk op t n v g l c ks,b=>op == b.op && ((t.1 == b.ty.1 && t.2 == b.ty.2) && (n == b.num && (v == b.var && (g == b.glob && (l == b.line && (c == b.col && yO ks b.kids))))))
def yO:List Ex->List Ex->Bool
 | [],us=>us.isEmpty
 | t :: ts,us=>match us with
  | []=>false
  | u :: us=>qKs t u && yO ts us
end
mutual
def qKu:Sx->Sx->Bool
 | .mk op l c tg es fn th el,b=>op == b.op && (l == b.line && (c == b.col && (fn == b.fn && (yO tg b.target && (yO es b.exprs && (yA th b.thn && yA el b.els))))))
def yA:List Sx->List Sx->Bool
 | [],us=>us.isEmpty
 | t :: ts,us=>match us with
  | []=>false
  | u :: us=>qKu t u && yA ts us
end
def qYf(a b:qQ2):Bool:=a.name == b.name && ((a.t.1 == b.t.1 && a.t.2 == b.t.2) && (a.params == b.params && (kC a.vars b.vars && yA a.body b.body)))
def wS:List qQ2->List qQ2->Bool
 | [],us=>us.isEmpty
 | t :: ts,us=>match us with
  | []=>false
  | u :: us=>qYf t u && wS ts us
def qLv(a b:PrD):Bool:=a.main == b.main && (kC a.globals b.globals && wS a.funcs b.funcs)
theorem qYj:∀ (ts us:List qI),kC ts us=true->ts.length=us.length
 | [],us,h=>by cases us with | nil=>rfl | cons u r=>simp[kC]at h
 | t :: ts,us,h=>by
  cases us with
  | nil=>simp[kC]at h
  | cons u r =>
   simp only[kC,bE]at h;simp[qYj ts r h.2]
theorem qLH{ts us:List qI}{i:Nat}(h:i < ts.length)(j:i < us.length):kC (ts.drop i) (us.drop i)=(qYi ts[i] us[i] && kC (ts.drop (i+1)) (us.drop (i+1))):=by
 rw[List.drop_eq_getElem_cons h,List.drop_eq_getElem_cons j,kC]
theorem qLz{ts us:List qI}{i:Nat}(h:¬i < ts.length)(hl:ts.length=us.length):kC (ts.drop i) (us.drop i)=true:=by
 rw[List.drop_eq_nil_of_le (by omega),List.drop_eq_nil_of_le (by omega),kC];rfl
theorem qYe:∀ (ts us:List Ex),yO ts us=true->ts.length=us.length
 | [],us,h=>by cases us with | nil=>rfl | cons u r=>simp[yO]at h
 | t :: ts,us,h=>by
  cases us with
  | nil=>simp[yO]at h
  | cons u r =>
   simp only[yO,bE]at h;simp[qYe ts r h.2]
theorem qLE{ts us:List Ex}{i:Nat}(h:i < ts.length)(j:i < us.length):yO (ts.drop i) (us.drop i)=(qKs ts[i] us[i] && yO (ts.drop (i+1)) (us.drop (i+1))):=by
 rw[List.drop_eq_getElem_cons h,List.drop_eq_getElem_cons j,yO]
theorem qLt{ts us:List Ex}{i:Nat}(h:¬i < ts.length)(hl:ts.length=us.length):yO (ts.drop i) (us.drop i)=true:=by
 rw[List.drop_eq_nil_of_le (by omega),List.drop_eq_nil_of_le (by omega),yO];rfl
theorem qYh:∀ (ts us:List Sx),yA ts us=true->ts.length=us.length
 | [],us,h=>by cases us with | nil=>rfl | cons u r=>simp[yA]at h
 | t :: ts,us,h=>by
  cases us with
  | nil=>simp[yA]at h
  | cons u r =>
   simp only[yA,bE]at h;simp[qYh ts r h.2]
theorem qLG{ts us:List Sx}{i:Nat}(h:i < ts.length)(j:i < us.length):yA (ts.drop i) (us.drop i)=(qKu ts[i] us[i] && yA (ts.drop (i+1)) (us.drop (i+1))):=by
 rw[List.drop_eq_getElem_cons h,List.drop_eq_getElem_cons j,yA]
theorem qLx{ts us:List Sx}{i:Nat}(h:¬i < ts.length)(hl:ts.length=us.length):yA (ts.drop i) (us.drop i)=true:=by
 rw[List.drop_eq_nil_of_le (by omega),List.drop_eq_nil_of_le (by omega),yA];rfl
theorem qYg:∀ (ts us:List qQ2),wS ts us=true->ts.length=us.length
 | [],us,h=>by cases us with | nil=>rfl | cons u r=>simp[wS]at h
 | t :: ts,us,h=>by
  cases us with
  | nil=>simp[wS]at h
  | cons u r =>
   simp only[wS,bE]at h;simp[qYg ts r h.2]
theorem qLF{ts us:List qQ2}{i:Nat}(h:i < ts.length)(j:i < us.length):wS (ts.drop i) (us.drop i)=(qYf ts[i] us[i] && wS (ts.drop (i+1)) (us.drop (i+1))):=by
 rw[List.drop_eq_getElem_cons h,List.drop_eq_getElem_cons j,wS]
theorem qLu{ts us:List qQ2}{i:Nat}(h:¬i < ts.length)(hl:ts.length=us.length):wS (ts.drop i) (us.drop i)=true:=by
 rw[List.drop_eq_nil_of_le (by omega),List.drop_eq_nil_of_le (by omega),wS];rfl
theorem sameV_refl(a:qI):qYi a a=true:=by simp[qYi]
theorem qJU:∀ l:List qI,kC l l=true
 | []=>rfl
 | a :: r=>by simp only[kC,bE];exact⟨sameV_refl a,qJU r⟩
mutual
theorem sameE_refl:∀ e:Ex,qKs e e=true
 | .mk op t n v g l c ks=>by
  have:=qJT ks;simp[qKs,Ex.op,Ex.ty,Ex.num,Ex.var,Ex.glob,Ex.line,Ex.col,Ex.kids,this]
theorem qJT:∀ l:List Ex,yO l l=true
 | []=>rfl
 | a :: r=>by simp only[yO,bE];exact⟨sameE_refl a,qJT r⟩
end
mutual
theorem sameS_refl:∀ e:Sx,qKu e e=true
 | .mk op l c tg es fn th el=>by
  have h1:=qXO th;have h2:=qXO el;simp[qKu,Sx.op,Sx.line,Sx.col,Sx.target,Sx.exprs,Sx.fn,Sx.thn,Sx.els,qJT,h1,h2]
theorem qXO:∀ l:List Sx,yA l l=true
 | []=>rfl
 | a :: r=>by simp only[yA,bE];exact⟨sameS_refl a,qXO r⟩
end
theorem sameF_refl(a:qQ2):qYf a a=true:=by simp[qYf,qJU,qXO]
theorem qWc:∀ l:List qQ2,wS l l=true
 | []=>rfl
 | a :: r=>by simp only[wS,bE];exact⟨sameF_refl a,qWc r⟩
theorem qLw(p:PrD):qLv p p=true:=by simp[qLv,qJU,qWc]
def xM(b:Bool)(w:World)(e:Ending)(w':World):Prop:=e=.returned (.bool b)/\Below w.1.size w w'
theorem qMu{t:Ex}{ks:List Ex}(h:t∈ks)(op:List UInt8)(ty:Ty)(n v:Int)(g:Bool)(l c:Int):SizeOf.sizeOf t < SizeOf.sizeOf (Ex.mk op ty n v g l c ks):=by
 have:=List.sizeOf_lt_of_mem h;simp only[Ex.mk.sizeOf_spec];omega
theorem thn_size{t:Sx}{e:Sx}(h:t∈e.thn):SizeOf.sizeOf t < SizeOf.sizeOf e:=by
 obtain⟨op,l,c,tg,s,fn,j,o⟩:=e;have:=List.sizeOf_lt_of_mem (show t∈j from h);simp only[Sx.mk.sizeOf_spec];omega
theorem els_size{t:Sx}{e:Sx}(h:t∈e.els):SizeOf.sizeOf t < SizeOf.sizeOf e:=by
 obtain⟨op,l,c,tg,o,fn,s,j⟩:=e;have:=List.sizeOf_lt_of_mem (show t∈j from h);simp only[Sx.mk.sizeOf_spec];omega
def AlERel(ts us:List Ex)(w:World)(i:Value)(wr:World):Prop :=
 ∃ k:Nat,k<=ts.length/\i=.int .i64 k/\yO (ts.drop k) (us.drop k)=yO ts us/\Below w.1.size w wr
theorem qWE(B:Nat)(ts us:List Ex)(q q':Option Addr)(c c':Nat)(w:World)(hB:B<=w.1.size)(h1:qWx B w ts q)(h2:qWx B w us q')(d3:ts.length<=maxLen)(d2:us.length<=maxLen)
 (hrec:∀ t∈ts,∀ (u:Ex) (v v':Value) (w:World),B<=w.1.size->qQF w (· < B) t v->qQF w (· < B) u v'->Calls prog 70 #[exV t v,exV u v'] w (xM (qKs t u) w)) :
 Calls prog 69 #[.slice q ts.length c, .slice q' us.length c', .func (.func 70) #[] #[]] w (xM (yO ts us) w):=by
 have H1:=hI h1;have H2:=hI h2;have HR:=hI hrec;have d8:∀ (args:Array Value) (w:World),(callFunc 70 args).run prog w=.ok (.enter 70 args) w:=fun _ _=>rfl
 unfold maxLen at d3 d2;clear h1 h2 hrec;unfold xM;by_cases hl:ts.length=us.length
 ·have Z:(((ts.length:Nat):Int) != ((us.length:Nat):Int))=false:=by simp[hl]
  rw[<-hl];rw[<-hl]at Z d2;have HL:=hI hl;clear hl;go_enter func69,ntmps69
  go_wp2_with fail
  go_loopw [15] (fun i wr=>AlERel ts us w i wr) (fun i _=>ts.length - (intOf i).toNat)
  case atStart=>exact⟨0,Nat.zero_le _,rfl,by simp,Below.refl _ _⟩
  case round =>
   obtain⟨k,hk,rfl,hs,hb⟩:=hrel;have HS:=hI hs;have j:=hI hb;clear hs hb;by_cases z:k < ts.length
   ·have s:k < us.length:=by have:=HL.o;omega
    obtain⟨g,rfl,d9,f3,U⟩:=(H1.o.keep (j.o.mono hB)).resolve_left (fun e=>by rw[e]at z;simp at z);obtain⟨g',rfl,d5,d6,V⟩:=(H2.o.keep (j.o.mono hB)).resolve_left (fun e=>by rw[e]at s;simp at s);have C:B<=wr.1.size:=by have:=j.o.size;omega
    obtain⟨v1,l1,C1⟩:=U k z;obtain⟨v2,l2,C2⟩:=V k s;have⟨k0,k1,k2,k3,k4,k5,k6,k7,k8,_⟩:=C1.a;have⟨j0,j1,j2,j3,j4,j5,j6,j7,j8,_⟩:=C2.a;have HC:=hI (fun(W:World) (h:Below wr.1.size wr W)=>HR.o ts[k] (List.getElem_mem _) us[k] v1 v2 W (Nat.le_trans C h.size) (l1.keep (h.mono C)) (l2.keep (h.mono C)));have A:=qLE z s;have J:=hI A;clear A;clear C1 C2 U V l1 l2;generalize ts[k]=t at *;generalize us[k]=u at *;obtain⟨op,ty,n,va,gl,l,co,ks⟩:=t;obtain⟨op',G,n',va',R,l',O,d4⟩:=u;simp only[Ex.op,Ex.ty,Ex.num,Ex.var,Ex.glob,Ex.line,Ex.col,exV]at k0 k1 k2 k3 k4 k5 k6 k7 k8 j0 j1 j2 j3 j4 j5 j6 j7 j8 HC;generalize hT:Ex.mk op ty n va gl l co ks=t at *;generalize hU:Ex.mk op' G n' va' R l' O d4=u at *;generalize f5:qKs t u=b at *;have d7:(k:Int) < (ts.length:Nat):=by omega
    have f4:(0:Int)<=(k:Int):=by omega
    go_wp2_with fail
    refine wRg (S:=fun w'=>Below wr.1.size wr w') 9 ?_;refine wTk 0 18 (.func (.func 70) #[] #[]) ?_ (bD wr) ?_
    ·intro _ y;go_simp
    refine wTk 1 19 (.slice (some ⟨g,0,none⟩) ts.length c) ?_ (bD wr) ?_
    ·intro _ y;go_simp
    refine wTk 2 20 (.int .i64 k) ?_ (bD wr) ?_
    ·intro _ y;go_simp
    refine wTk 3 21 (.pointer (some ⟨g,k * 9,none⟩)) ?_ (bD wr) ?_
    ·intro _ y;go_simp
    refine wTk 4 22 (.agg #[.string ⟨op.toArray⟩, .int .i64 ty.1, .bool ty.2, .int .u64 n, .int .i64 va, .bool gl, .int .i64 l, .int .i64 co,v1]) ?_ (bD wr) ?_
    ·intro _ y;obtain⟨k0,k1,k2,k3,k4,k5,k6,k7⟩:=kP8 y k0 k1 k2 k3 k4 k5 k6 k7;have k8:=kP y k8;go_simp
    refine wTk 5 23 (.slice (some ⟨g',0,none⟩) ts.length c') ?_ (bD wr) ?_
    ·intro _ y;go_simp
    refine wTk 6 24 (.int .i64 k) ?_ (bD wr) ?_
    ·intro _ y;go_simp
    refine wTk 7 25 (.pointer (some ⟨g',k * 9,none⟩)) ?_ (bD wr) ?_
    ·intro _ y;go_simp
    refine wTk 8 26 (.agg #[.string ⟨op'.toArray⟩, .int .i64 G.1, .bool G.2, .int .u64 n', .int .i64 va', .bool R, .int .i64 l', .int .i64 O,v2]) ?_ (bD wr) ?_
    ·intro _ y;obtain⟨j0,j1,j2,j3,j4,j5,j6,j7⟩:=kP8 y j0 j1 j2 j3 j4 j5 j6 j7;have j8:=kP y j8;go_simp
    refine wOn 9 fun K hK=>?_
    go_simp;refine(HC.o _ (Below.refl _ _).drew).mono ?_;rintro e w3 ⟨rfl,hb3⟩;have X:=zF hb3;have I:=hI X;clear hb3;refine kD hK ?_;clear hK K;refine wOn 10 fun K hK=>?_
    go_simp;refine kD hK ?_;clear hK K;refine wDn ?_ _;clear X;cases b
    ·go_wp2
     go_ret;refine⟨?_,j.o.trans (I.o.mono j.o.size)⟩;rw[<-HS.o,J.o];rfl
    ·go_wp2
     go_roundw
     case rel=>exact⟨k+1,by omega,by go_num,by rw[<-HS.o,J.o,bT],j.o.trans (I.o.mono j.o.size)⟩
     case measure=>simp[intOf];omega
   ·have Y:=qLt z HL.o;go_wp2
    go_ret;refine⟨?_,j.o⟩;rw[<-HS.o,Y];rfl
 ·have Z:(((ts.length:Nat):Int) != ((us.length:Nat):Int))=true:=by simp;omega
  have hs:yO ts us=false:=by
   cases h:yO ts us
   ·rfl
   ·exact absurd (qYe ts us h) hl
  rw[hs];clear hl;go_enter func69,ntmps69
  go_wp2
  go_ret;exact⟨rfl,Below.refl _ _⟩
theorem qYL(B:Nat)(a b:Ex)(v V:Value)(w:World)(hB:B<=w.1.size)(ha:qQF w (· < B) a v)(hb:qQF w (· < B) b V)
 (hrec:∀ t∈a.kids,∀ (u:Ex) (v V:Value) (w:World),B<=w.1.size->qQF w (· < B) t v->qQF w (· < B) u V->Calls prog 70 #[exV t v,exV u V] w (xM (qKs t u) w)) :
 Calls prog 70 #[exV a v,exV b V] w (xM (qKs a b) w):=by
 obtain⟨q,c,rfl,hm,G⟩:=ha.at
 obtain⟨q',c',rfl,J,I⟩:=hb.at
 obtain⟨op,ty,n,va,gl,l,co,ks⟩:=a;obtain⟨op',s,n',va',A,l',z,j⟩:=b;simp only[Ex.kids]at *;have h2:=(bal (Below.refl w.1.size w) (.cells (exC (.mk op ty n va gl l co ks) (.slice q ks.length c)).toArray 76)).trans ((bal (Below.refl _ (w.alloc (.cells (exC (.mk op ty n va gl l co ks) (.slice q ks.length c)).toArray 76))) (.cells (exC (.mk op' s n' va' A l' z j) (.slice q' j.length c')).toArray 76)).mono (by simp));have HE:=hI (qWE B ks j q q' c c' _ (Nat.le_trans hB h2.size) (G.keep (h2.mono hB)) (I.keep (h2.mono hB)) hm J hrec);have y:=hI h2;have O:qKs (.mk op ty n va gl l co ks) (.mk op' s n' va' A l' z j)=(op == op' && ((ty.1 == s.1 && ty.2 == s.2) && (n == n' && (va == va' && (gl == A && (l == l' && (co == z && yO ks j))))))):=rfl;rw[O];clear h2 ha hb G I hrec O hm J;unfold xM at *;simp only[exC,exV]at *;cases e0:(op == op');case false =>
  go_enter func70,ntmps70
  go_wp2
  go_ret;exact⟨rfl,y.o⟩
 case true =>
 obtain⟨C,X⟩:=ty;obtain⟨R,U⟩:=s;simp only at *;by_cases Y:C=R
 case neg =>
  rw[show(C == R)=false by simpa using Y];go_enter func70,ntmps70
  go_wp2
  go_ret;exact⟨rfl,y.o⟩
 case pos =>
 subst Y;by_cases Z:X=U
 case neg =>
  rw[show(C == C)=true by simp,show(X == U)=false by simpa using Z];go_enter func70,ntmps70
  go_wp2
  go_ret;exact⟨rfl,y.o⟩
 case pos =>
 subst Z;rw[show(C == C)=true by simp,show(X == X)=true by simp];cases e2:(n == n');case false =>
  go_enter func70,ntmps70
  go_wp2
  go_ret;exact⟨rfl,y.o⟩
 case true =>
 cases e3:(va == va');case false =>
  go_enter func70,ntmps70
  go_wp2
  go_ret;exact⟨rfl,y.o⟩
 case true =>
 cases e4:(gl == A);case false =>
  go_enter func70,ntmps70
  go_wp2
  go_ret;exact⟨rfl,y.o⟩
 case true =>
 cases e5:(l == l');case false =>
  go_enter func70,ntmps70
  go_wp2
  go_ret;exact⟨rfl,y.o⟩
 case true =>
 cases e6:(co == z);case false =>
  go_enter func70,ntmps70
  go_wp2
  go_ret;exact⟨rfl,y.o⟩
 case true =>
  go_enter func70,ntmps70
  go_wp2_with fail
  refine(HE.o).mono ?_;rintro e w3 ⟨rfl,hb3⟩;go_wp2
  go_ret;exact⟨rfl,y.o.trans (hb3.mono y.o.size)⟩
theorem qU2(B:Nat):∀ (n:Nat) (a:Ex),SizeOf.sizeOf a < n->∀ (b:Ex) (va j:Value) (w:World),B<=w.1.size->qQF w (· < B) a va->qQF w (· < B) b j->Calls prog 70 #[exV a va,exV b j] w (xM (qKs a b) w):=by
 intro n;induction n with
 | zero=>intro a h;omega
 | succ n ih =>
  intro a h b va j w hB o hb;refine qYL B a b va j w hB o hb fun t ht u v v' w1 h1 h2 h3=>ih t ?_ u v v' w1 h1 h2 h3
  obtain⟨op,ty,m,v,g,l,c,ks⟩:=a;have:=qMu (t:=t) (ks:=ks) ht op ty m v g l c;omega
theorem qKt(B:Nat)(j us:List Ex)(q y:Option Addr)(c c':Nat)(w:World)(hB:B<=w.1.size)(z:qWx B w j q)(h2:qWx B w us y)(o:j.length<=maxLen)(s:us.length<=maxLen) :
 Calls prog 69 #[.slice q j.length c, .slice y us.length c', .func (.func 70) #[] #[]] w (xM (yO j us) w) :=
 qWE B j us q y c c' w hB z h2 o s fun t _ u v v' w1 hB1 l1 l2=>qU2 B _ t (Nat.lt_succ_self _) u v v' w1 hB1 l1 l2
theorem qML{w:World}{g T:Nat}{a0 j o a3 a4 a5 s y z:Value}(h:w.1[g]? = some (.cells #[a0,j,o,a3,a4,a5,s,y,z] T)) :
 w.cell? ⟨g,0,none⟩=some a0/\w.cell? ⟨g,1,none⟩=some j/\w.cell? ⟨g,2,none⟩=some o/\w.cell? ⟨g,3,none⟩=some a3/\w.cell? ⟨g,4,none⟩=some a4/\w.cell? ⟨g,5,none⟩=some a5/\w.cell? ⟨g,6,none⟩=some s/\w.cell? ⟨g,7,none⟩=some y/\w.cell? ⟨g,8,none⟩=some z:=by
 simp[World.cell?,h]
def SnRel(ks:List Ex)(W:World)(i:Value)(wr:World):Prop:=∃ k:Nat,k<=ks.length/\i=.int .i64 k/\Below W.1.size W wr
theorem sound_step(B:Nat)(e:Ex)(v:Value)(w:World)(hs:Snd e)(hB:B<=w.1.size)(hl:qQF w (· < B) e v)
 (hrec:∀ k∈e.kids,∀ (v:Value) (w:World),B<=w.1.size->qQF w (· < B) k v->Calls prog 26 #[exV k v] w (xM true w)) :
 Calls prog 26 #[exV e v] w (xM true w):=by
 obtain⟨q,c,rfl,hm,d5⟩:=hl.at
 obtain⟨op,⟨R,V⟩,n,va,gl,l,co,ks⟩:=e;cases hs with
 | mk _ _ _ _ _ _ _ _ h1 h2 h3 h4 =>
 simp only[Ex.kids]at *;have Y:=hI h2;have Z:=hI h3;have d8:=hI h4;have HK:=hI d5;have HR:=hI hrec;have hb:=bal (Below.refl w.1.size w) (.cells #[.string ⟨op.toArray⟩, .int .i64 R, .bool V, .int .u64 n, .int .i64 va, .bool gl, .int .i64 l, .int .i64 co, .slice q ks.length c] 76);have HB:=hI hb;have HN:=hI (vL w (.cells #[.string ⟨op.toArray⟩, .int .i64 R, .bool V, .int .u64 n, .int .i64 va, .bool gl, .int .i64 l, .int .i64 co, .slice q ks.length c] 76));have g8:(w.alloc (.cells #[.string ⟨op.toArray⟩, .int .i64 R, .bool V, .int .u64 n, .int .i64 va, .bool gl, .int .i64 l, .int .i64 co, .slice q ks.length c] 76)).1.size=w.1.size+1:=by simp
 unfold maxLen at hm;clear hl d5 hrec h1 h2 h3 h4 hb;unfold xM exV at *;simp only at *;go_enter func26,ntmps26
 go_wp2_with fail
 go_loopw [3] (fun i wr=>SnRel ks (w.alloc (.cells #[.string ⟨op.toArray⟩, .int .i64 R, .bool V, .int .u64 n, .int .i64 va, .bool gl, .int .i64 l, .int .i64 co, .slice q ks.length c] 76)) i wr) (fun i _=>ks.length - (intOf i).toNat)
 case atStart=>exact⟨0,Nat.zero_le _,rfl,Below.refl _ _⟩
 case round =>
  obtain⟨k,hk,rfl,G⟩:=hrel;have X:=hI G;have s:=hI (HB.o.trans (G.mono HB.o.size));obtain⟨m0,m1,m2,m3,m4,m5,m6,m7,m8⟩:=qML ((G.block w.1.size (by omega)).trans HN.o);have d9:=qJ m0;simp only at d9;clear G;by_cases O:k < ks.length
  ·obtain⟨g,rfl,g4,g5,hR⟩:=(HK.o.keep (s.o.mono hB)).resolve_left (fun e=>by rw[e]at O;simp at O);obtain⟨v1,l1,C1⟩:=hR k O;obtain⟨qk,ck,rfl,-,-⟩:=l1.at
   generalize f6:ks[k].kids.length=nk at *;obtain⟨v0,-,C0⟩:=hR 0 (by omega);have j1:=C0.c1;have j2:=C0.c2;simp only[Nat.zero_mul,Nat.zero_add]at j1 j2;have⟨k0,k1,k2,k3,k4,k5,k6,k7,k8,_⟩:=C1.a;have d2:B<=wr.1.size:=by have:=s.o.size;omega
   have HC:=hI (fun(W:World) (h:Below wr.1.size wr W)=>HR.o ks[k] (List.getElem_mem _) (.slice qk nk ck) W (Nat.le_trans d2 h.size) (l1.keep (h.mono d2)));have y:=qYc (Y.o ks[k] (List.getElem_mem _));have I:op=[99,97,115,116]\/(op=[105,110,100,101,120]/\ks[k].ty.1≠1)\/(cmpB op=true/\R=1/\ks[0].ty=ks[k].ty)\/(op≠zK/\op≠qL/\cmpB op=false/\ks[k].ty=(R,V)):=by
    rcases Z.o with h | ⟨h,h'⟩ | ⟨h,h',u,C⟩ | ⟨h,h',C,h3⟩
    ·exact .inl h
    ·exact .inr (.inl ⟨h,h' _ (List.getElem_mem _)⟩)
    ·exact .inr (.inr (.inl ⟨h,h',(C _ (List.getElem_mem _)).trans (C _ (List.getElem_mem _)).symm⟩))
    ·exact .inr (.inr (.inr ⟨h,h',C,h3 _ (List.getElem_mem _)⟩))
   have g0:(k:Int) < (ks.length:Nat):=by omega
   have f9:(0:Int) < (ks.length:Nat):=by omega
   have g6:(0:Int)<=(k:Int):=by omega
   clear C1 C0 hR l1 f6;generalize ks[k]=u at *;generalize ks[0].ty=z at *;obtain⟨U,⟨u1,u2⟩,un,uv,ug,ul,uc,g9⟩:=u;obtain⟨z1,z2⟩:=z;simp only[Ex.op,Ex.ty,Ex.num,Ex.var,Ex.glob,Ex.line,Ex.col,exV]at k0 k1 k2 k3 k4 k5 k6 k7 k8 HC y I j1 j2;have ha:=bal (Below.refl wr.1.size wr) (.cells #[.string ⟨U.toArray⟩, .int .i64 u1, .bool u2, .int .u64 un, .int .i64 uv, .bool ug, .int .i64 ul, .int .i64 uc, .slice qk nk ck] 76);have HU:=hI (vL wr (.cells #[.string ⟨U.toArray⟩, .int .i64 u1, .bool u2, .int .u64 un, .int .i64 uv, .bool ug, .int .i64 ul, .int .i64 uc, .slice qk nk ck] 76));have HA:=hI ha;have g7:=ha.size;have g2:(wr.alloc (.cells #[.string ⟨U.toArray⟩, .int .i64 u1, .bool u2, .int .u64 un, .int .i64 uv, .bool ug, .int .i64 ul, .int .i64 uc, .slice qk nk ck] 76)).1.size=wr.1.size+1:=by simp
   clear ha;go_wp2_with fail
   refine(HC.o _ HA.o).mono ?_;rintro e w2 ⟨rfl,J⟩;have j:=HA.o.trans (J.mono HA.o.size);have A:=hI (X.o.trans (j.mono X.o.size));have g3:=hI (s.o.trans (j.mono s.o.size));obtain⟨y0,y1,y2,y3,y4,y5,y6,y7,y8⟩:=qML ((J.block wr.1.size (by omega)).trans HU.o);have f3:=qJ y0;simp only at f3;obtain⟨m0,m1,m2,m8,j1,j2⟩:=kP6 j m0 m1 m2 m8 j1 j2;have f8:g < w2.1.size:=by omega
   have g1:w.1.size < w2.1.size:=by omega
   clear J j HC HU HA k0 k1 k2 k3 k4 k5 k6 k7 k8 m3 m4 m5 m6 m7 HR HK Y Z;rcases I with rfl | ⟨rfl,hi⟩ | ⟨hc,rfl,d3⟩ | ⟨n1,n2,n3,d7⟩
   ·rcases y with⟨rfl,rfl⟩ | rfl | rfl | rfl | rfl;all_goals
     go_wp2
     go_roundw
     case rel=>exact⟨k+1,by omega,by go_num,A.o⟩
     case measure=>simp[intOf];omega
   ·rcases y with⟨rfl,rfl⟩ | rfl | rfl | rfl | rfl
    ·exact absurd rfl hi
    all_goals
     go_wp2
     go_roundw
     case rel=>exact⟨k+1,by omega,by go_num,A.o⟩
     case measure=>simp[intOf];omega
   ·obtain⟨rfl,rfl⟩:z1=u1/\z2=u2:=⟨congrArg Prod.fst d3,congrArg Prod.snd d3⟩;unfold cmpB at hc;simp only[Bool.or_eq_true,beq_iff_eq]at hc;rcases hc with rfl | rfl | rfl | rfl | rfl | rfl;all_goals
     rcases y with⟨rfl,rfl⟩ | rfl | rfl | rfl | rfl;all_goals
      go_wp2_with fail
      go_region
      go_wp2
      go_roundw
      case rel=>exact⟨k+1,by omega,by go_num,A.o.drew⟩
      case measure=>simp[intOf];omega
   ·obtain⟨rfl,rfl⟩:u1=R/\u2=V:=⟨congrArg Prod.fst d7,congrArg Prod.snd d7⟩;have q1:(op == [99,97,115,116])=false:=by simpa[zK]using n1
    have q2:(op == [105,110,100,101,120])=false:=by simpa[qL]using n2
    unfold cmpB at n3;simp only[Bool.or_eq_false_iff]at n3;obtain⟨q3,q4,q5,q6,q7,q8⟩:=n3;rcases y with⟨rfl,rfl⟩ | rfl | rfl | rfl | rfl;all_goals
     go_wp2
     go_roundw
     case rel=>exact⟨k+1,by omega,by go_num,A.o⟩
     case measure=>simp[intOf];omega
  ·by_cases d6:op=zD
   ·subst d6;obtain⟨f4,d4⟩:=d8.o rfl;unfold zD at *;rcases d4 with rfl | ⟨b,f7,rfl,f5⟩
    ·go_wp2
     go_ret;exact⟨rfl,s.o⟩
    ·have hz:n / 2 ^ b=0:=Int.ediv_eq_zero_of_lt f4 f5;go_wp2
     go_ret;exact⟨by first | rfl | (rw[hz];simp),s.o⟩
   ·have q1:(op == [110,117,109])=false:=by simpa[zD]using d6
    go_wp2
    go_ret;exact⟨rfl,s.o⟩
theorem qMz(B:Nat):∀ (n:Nat) (e:Ex),SizeOf.sizeOf e < n->Snd e->∀ (v:Value) (w:World),B<=w.1.size->qQF w (· < B) e v->Calls prog 26 #[exV e v] w (xM true w):=by
 intro n;induction n with
 | zero=>intro e h;omega
 | succ n ih =>
  intro e h hs v w hB hl;refine sound_step B e v w hs hB hl fun k hk v w h1 h2=>?_
  cases hs with
  | mk op t m va g l c ks s1 s2 s3 s4 =>
   have:=qMu (t:=k) (ks:=ks) hk op t m va g l c;exact ih k (by omega) (s1 k hk) v w h1 h2
def AlSRel(ts us:List Sx)(w:World)(i:Value)(wr:World):Prop :=
 ∃ k:Nat,k<=ts.length/\i=.int .i64 k/\yA (ts.drop k) (us.drop k)=yA ts us/\Below w.1.size w wr
theorem qKz(B:Nat)(ts us:List Sx)(q q':Option Addr)(c c':Nat)(w:World)(hB:B<=w.1.size)(h1:qVt B w ts q)(h2:qVt B w us q')(d5:ts.length<=maxLen)(Z:us.length<=maxLen)
 (hrec:∀ t∈ts,∀ (u:Sx) (v v':qQg) (w:World),B<=w.1.size->wL w (· < B) t v->wL w (· < B) u v'->Calls prog 48 #[sxV t v,sxV u v'] w (xM (qKu t u) w)) :
 Calls prog 47 #[.slice q ts.length c, .slice q' us.length c', .func (.func 48) #[] #[]] w (xM (yA ts us) w):=by
 have H1:=hI h1;have H2:=hI h2;have HR:=hI hrec;have f7:∀ (args:Array Value) (w:World),(callFunc 48 args).run prog w=.ok (.enter 48 args) w:=fun _ _=>rfl
 unfold maxLen at d5 Z;clear h1 h2 hrec;unfold xM;by_cases hl:ts.length=us.length
 ·have Y:(((ts.length:Nat):Int) != ((us.length:Nat):Int))=false:=by simp[hl]
  rw[<-hl];rw[<-hl]at Y Z;have HL:=hI hl;clear hl;go_enter func47,ntmps47
  go_wp2_with fail
  go_loopw [15] (fun i wr=>AlSRel ts us w i wr) (fun i _=>ts.length - (intOf i).toNat)
  case atStart=>exact⟨0,Nat.zero_le _,rfl,by simp,Below.refl _ _⟩
  case round =>
   obtain⟨k,hk,rfl,hs,hb⟩:=hrel;have HS:=hI hs;have j:=hI hb;clear hs hb;by_cases z:k < ts.length
   ·have s:k < us.length:=by have:=HL.o;omega
    obtain⟨g,rfl,f8,f9,R⟩:=(H1.o.keep (j.o.mono hB)).resolve_left (fun e=>by rw[e]at z;simp at z);obtain⟨g',rfl,f4,f5,U⟩:=(H2.o.keep (j.o.mono hB)).resolve_left (fun e=>by rw[e]at s;simp at s);have C:B<=wr.1.size:=by have:=j.o.size;omega
    obtain⟨v1,l1,C1⟩:=R k z;obtain⟨v2,l2,C2⟩:=U k s;have⟨k0,k1,k2,k3,k4,k5,k6,k7,_⟩:=C1.a;have⟨j0,j1,j2,j3,j4,j5,j6,j7,_⟩:=C2.a;have HC:=hI (fun(W:World) (h:Below wr.1.size wr W)=>HR.o ts[k] (List.getElem_mem _) us[k] v1 v2 W (Nat.le_trans C h.size) (l1.keep (h.mono C)) (l2.keep (h.mono C)));have A:=qLG z s;have I:=hI A;clear A;clear C1 C2 R U l1 l2;generalize ts[k]=t at *;generalize us[k]=u at *;obtain⟨op,l,co,tg,es,fn,th,el⟩:=t;obtain⟨op',l',J,d8,d3,O,d9,d2⟩:=u;obtain⟨tv,ev,hv,lv⟩:=v1;obtain⟨f3,d4,d6,d7⟩:=v2;simp only[Sx.op,Sx.line,Sx.col,Sx.fn,sxV]at k0 k1 k2 k3 k4 k5 k6 k7 j0 j1 j2 j3 j4 j5 j6 j7 HC;generalize hT:Sx.mk op l co tg es fn th el=t at *;generalize hU:Sx.mk op' l' J d8 d3 O d9 d2=u at *;generalize g1:qKu t u=b at *;have f6:(k:Int) < (ts.length:Nat):=by omega
    have g0:(0:Int)<=(k:Int):=by omega
    go_wp2_with fail
    refine wRg (S:=fun w'=>Below wr.1.size wr w') 9 ?_;refine wTk 0 18 (.func (.func 48) #[] #[]) ?_ (bD wr) ?_
    ·intro _ y;go_simp
    refine wTk 1 19 (.slice (some ⟨g,0,none⟩) ts.length c) ?_ (bD wr) ?_
    ·intro _ y;go_simp
    refine wTk 2 20 (.int .i64 k) ?_ (bD wr) ?_
    ·intro _ y;go_simp
    refine wTk 3 21 (.pointer (some ⟨g,k * 8,none⟩)) ?_ (bD wr) ?_
    ·intro _ y;go_simp
    refine wTk 4 22 (.agg #[.string ⟨op.toArray⟩, .int .i64 l, .int .i64 co,tv,ev, .int .i64 fn,hv,lv]) ?_ (bD wr) ?_
    ·intro _ y;obtain⟨k0,k1,k2,k3,k4,k5,k6,k7⟩:=kP8 y k0 k1 k2 k3 k4 k5 k6 k7;go_simp
    refine wTk 5 23 (.slice (some ⟨g',0,none⟩) ts.length c') ?_ (bD wr) ?_
    ·intro _ y;go_simp
    refine wTk 6 24 (.int .i64 k) ?_ (bD wr) ?_
    ·intro _ y;go_simp
    refine wTk 7 25 (.pointer (some ⟨g',k * 8,none⟩)) ?_ (bD wr) ?_
    ·intro _ y;go_simp
    refine wTk 8 26 (.agg #[.string ⟨op'.toArray⟩, .int .i64 l', .int .i64 J,f3,d4, .int .i64 O,d6,d7]) ?_ (bD wr) ?_
    ·intro _ y;obtain⟨j0,j1,j2,j3,j4,j5,j6,j7⟩:=kP8 y j0 j1 j2 j3 j4 j5 j6 j7;go_simp
    refine wOn 9 fun K hK=>?_
    go_simp;refine(HC.o _ (Below.refl _ _).drew).mono ?_;rintro e w3 ⟨rfl,hb3⟩;have V:=zF hb3;have G:=hI V;clear hb3;refine kD hK ?_;clear hK K;refine wOn 10 fun K hK=>?_
    go_simp;refine kD hK ?_;clear hK K;refine wDn ?_ _;clear V;cases b
    ·go_wp2
     go_ret;refine⟨?_,j.o.trans (G.o.mono j.o.size)⟩;rw[<-HS.o,I.o];rfl
    ·go_wp2
     go_roundw
     case rel=>exact⟨k+1,by omega,by go_num,by rw[<-HS.o,I.o,bT],j.o.trans (G.o.mono j.o.size)⟩
     case measure=>simp[intOf];omega
   ·have X:=qLx z HL.o;go_wp2
    go_ret;refine⟨?_,j.o⟩;rw[<-HS.o,X];rfl
 ·have Y:(((ts.length:Nat):Int) != ((us.length:Nat):Int))=true:=by simp;omega
  have hs:yA ts us=false:=by
   cases h:yA ts us
   ·rfl
   ·exact absurd (qYh ts us h) hl
  rw[hs];clear hl;go_enter func47,ntmps47
  go_wp2
  go_ret;exact⟨rfl,Below.refl _ _⟩
theorem qVx{w:World}{g T:Nat}{a0 j o a3 a4 a5 s y:Value}(h:w.1[g]? = some (.cells #[a0,j,o,a3,a4,a5,s,y] T)) :
 w.cell? ⟨g,0,none⟩=some a0/\w.cell? ⟨g,1,none⟩=some j/\w.cell? ⟨g,2,none⟩=some o/\w.cell? ⟨g,3,none⟩=some a3/\w.cell? ⟨g,4,none⟩=some a4/\w.cell? ⟨g,5,none⟩=some a5/\w.cell? ⟨g,6,none⟩=some s/\w.cell? ⟨g,7,none⟩=some y:=by
 simp[World.cell?,h]
theorem qYM(B:Nat)(a b:Sx)(v v':qQg)(w:World)(hB:B<=w.1.size)(ha:wL w (· < B) a v)(hb:wL w (· < B) b v')
 (hrec:∀ t,(t∈a.thn\/t∈a.els)->∀ (u:Sx) (v v':qQg) (w:World),B<=w.1.size->wL w (· < B) t v->wL w (· < B) u v'->Calls prog 48 #[sxV t v,sxV u v'] w (xM (qKu t u) w)) :
 Calls prog 48 #[sxV a v,sxV b v'] w (xM (qKu a b) w):=by
 obtain⟨Z,c1,q2,c2,q3,c3,q4,c4,rfl,a1,a2,a3,a4,m1,m2,m3,m4⟩:=ha.at
 obtain⟨p1,d1,p2,d2,p3,d3,p4,d4,rfl,b1,b2,b3,b4,n1,n2,n3,n4⟩:=hb.at
 obtain⟨op,l,co,tg,C,fn,G,A⟩:=a;obtain⟨op',l',J,y,s,O,z,j⟩:=b;simp only[Sx.target,Sx.exprs,Sx.thn,Sx.els]at *;have h2:=(bal (Below.refl w.1.size w) (.cells (sxC (.mk op l co tg C fn G A) ⟨.slice Z tg.length c1, .slice q2 C.length c2, .slice q3 G.length c3, .slice q4 A.length c4⟩).toArray 73)).trans ((bal (Below.refl _ (w.alloc (.cells (sxC (.mk op l co tg C fn G A) ⟨.slice Z tg.length c1, .slice q2 C.length c2, .slice q3 G.length c3, .slice q4 A.length c4⟩).toArray 73))) (.cells (sxC (.mk op' l' J y s O z j) ⟨.slice p1 y.length d1, .slice p2 s.length d2, .slice p3 z.length d3, .slice p4 j.length d4⟩).toArray 73)).mono (by simp));have N0:=hI ((bal (Below.refl _ (w.alloc (.cells (sxC (.mk op l co tg C fn G A) ⟨.slice Z tg.length c1, .slice q2 C.length c2, .slice q3 G.length c3, .slice q4 A.length c4⟩).toArray 73))) (.cells (sxC (.mk op' l' J y s O z j) ⟨.slice p1 y.length d1, .slice p2 s.length d2, .slice p3 z.length d3, .slice p4 j.length d4⟩).toArray 73)).block w.1.size (by simp) |>.trans (vL w (.cells (sxC (.mk op l co tg C fn G A) ⟨.slice Z tg.length c1, .slice q2 C.length c2, .slice q3 G.length c3, .slice q4 A.length c4⟩).toArray 73)));have N1:=hI (vL (w.alloc (.cells (sxC (.mk op l co tg C fn G A) ⟨.slice Z tg.length c1, .slice q2 C.length c2, .slice q3 G.length c3, .slice q4 A.length c4⟩).toArray 73)) (.cells (sxC (.mk op' l' J y s O z j) ⟨.slice p1 y.length d1, .slice p2 s.length d2, .slice p3 z.length d3, .slice p4 j.length d4⟩).toArray 73));have E1:=hI (fun(W:World) (h:Below w.1.size w W)=>qKt B tg y Z p1 c1 d1 W (Nat.le_trans hB h.size) (a1.keep (h.mono hB)) (b1.keep (h.mono hB)) m1 n1);have E2:=hI (fun(W:World) (h:Below w.1.size w W)=>qKt B C s q2 p2 c2 d2 W (Nat.le_trans hB h.size) (a2.keep (h.mono hB)) (b2.keep (h.mono hB)) m2 n2);have E3:=hI (fun(W:World) (h:Below w.1.size w W)=>qKz B G z q3 p3 c3 d3 W (Nat.le_trans hB h.size) (a3.keep (h.mono hB)) (b3.keep (h.mono hB)) m3 n3 fun t ht=>hrec t (.inl ht));have E4:=hI (fun(W:World) (h:Below w.1.size w W)=>qKz B A j q4 p4 c4 d4 W (Nat.le_trans hB h.size) (a4.keep (h.mono hB)) (b4.keep (h.mono hB)) m4 n4 fun t ht=>hrec t (.inr ht));have X:=hI h2;have d6:qKu (.mk op l co tg C fn G A) (.mk op' l' J y s O z j)=(op == op' && (l == l' && (co == J && (fn == O && (yO tg y && (yO C s && (yA G z && yA A j))))))):=rfl;rw[d6];clear h2 ha hb a1 a2 a3 a4 b1 b2 b3 b4 hrec d6;generalize yO tg y=g1 at *;generalize yO C s=g2 at *;generalize yA G z=g3 at *;generalize yA A j=g4 at *;rw[World.size_alloc]at N1;unfold xM at *;simp only[sxC,sxV]at *;cases e0:(op == op');case false =>
  go_enter func48,ntmps48
  go_wp2
  go_ret;exact⟨rfl,X.o⟩
 case true =>
 cases e1:(l == l');case false =>
  go_enter func48,ntmps48
  go_wp2
  go_ret;exact⟨rfl,X.o⟩
 case true =>
 cases e2:(co == J);case false =>
  go_enter func48,ntmps48
  go_wp2
  go_ret;exact⟨rfl,X.o⟩
 case true =>
 cases e3:(fn == O);case false =>
  go_enter func48,ntmps48
  go_wp2
  go_ret;exact⟨rfl,X.o⟩
 case true =>
 have C1:=hI (E1.o _ X.o);clear E1;have d5:(w.alloc (.cells (sxC (.mk op l co tg C fn G A) ⟨.slice Z tg.length c1, .slice q2 C.length c2, .slice q3 G.length c3, .slice q4 A.length c4⟩).toArray 73)).1.size=w.1.size+1:=by simp
 simp only[sxC]at d5;clear d5;go_enter func48,ntmps48
 go_wp2_with fail
 refine(C1.o).mono ?_;rintro e w3 ⟨rfl,hb3⟩;have R:=hI (X.o.trans (hb3.mono X.o.size));have M0:=hI ((hb3.block _ (by simp;omega)).trans N0.o);have M1:=hI ((hb3.block _ (by simp)).trans N1.o);have D2:=hI (E2.o w3 R.o);clear hb3 C1 E2 N0 N1 X;cases g1;case false =>
  go_wp2
  go_ret;exact⟨rfl,R.o⟩
 case true =>
 obtain⟨k0,k1,k2,k3,k4,k5,k6,k7⟩:=qVx M0.o;obtain⟨Y,j1,j2,j3,j4,j5,j6,j7⟩:=qVx M1.o;have I:=qJ Y;simp only at I;go_wp2_with fail
 refine(D2.o).mono ?_;rintro e w4 ⟨rfl,hb4⟩;have U:=hI (R.o.trans (hb4.mono R.o.size));have P0:=hI ((hb4.block _ (by omega)).trans M0.o);have P1:=hI ((hb4.block _ (by omega)).trans M1.o);have D3:=hI (E3.o w4 U.o);clear hb4 D2 E3 M0 M1 R k0 k1 k2 k3 k4 k5 k6 k7 Y j1 j2 j3 j4 j5 j6 j7 I;cases g2;case false =>
  go_wp2
  go_ret;exact⟨rfl,U.o⟩
 case true =>
 obtain⟨k0,k1,k2,k3,k4,k5,k6,k7⟩:=qVx P0.o;obtain⟨Y,j1,j2,j3,j4,j5,j6,j7⟩:=qVx P1.o;have I:=qJ Y;simp only at I;go_wp2_with fail
 refine(D3.o).mono ?_;rintro e w5 ⟨rfl,hb5⟩;have V:=hI (U.o.trans (hb5.mono U.o.size));have Q0:=hI ((hb5.block _ (by omega)).trans P0.o);have Q1:=hI ((hb5.block _ (by omega)).trans P1.o);have D4:=hI (E4.o w5 V.o);clear hb5 D3 E4 P0 P1 U k0 k1 k2 k3 k4 k5 k6 k7 Y j1 j2 j3 j4 j5 j6 j7 I;cases g3;case false =>
  go_wp2
  go_ret;exact⟨rfl,V.o⟩
 case true =>
 obtain⟨k0,k1,k2,k3,k4,k5,k6,k7⟩:=qVx Q0.o;obtain⟨Y,j1,j2,j3,j4,j5,j6,j7⟩:=qVx Q1.o;have I:=qJ Y;simp only at I;go_wp2_with fail
 refine(D4.o).mono ?_;rintro e w6 ⟨rfl,d8⟩;have d7:=hI (V.o.trans (d8.mono V.o.size));go_wp2
 go_ret;exact⟨rfl,d7.o⟩
theorem qU4(B:Nat):∀ (n:Nat) (a:Sx),SizeOf.sizeOf a < n->∀ (b:Sx) (va j:qQg) (w:World),B<=w.1.size->wL w (· < B) a va->wL w (· < B) b j->Calls prog 48 #[sxV a va,sxV b j] w (xM (qKu a b) w):=by
 intro n;induction n with
 | zero=>intro a h;omega
 | succ n ih =>
  intro a h b va j w hB o hb;refine qYM B a b va j w hB o hb fun t ht u v v' w1 h1 h2 h3=>ih t ?_ u v v' w1 h1 h2 h3
  rcases ht with ht | ht
  ·have:=thn_size ht;omega
  ·have:=els_size ht;omega
theorem qYN(B:Nat)(j us:List Sx)(q y:Option Addr)(c c':Nat)(w:World)(hB:B<=w.1.size)(z:qVt B w j q)(h2:qVt B w us y)(o:j.length<=maxLen)(s:us.length<=maxLen) :
 Calls prog 47 #[.slice q j.length c, .slice y us.length c', .func (.func 48) #[] #[]] w (xM (yA j us) w) :=
 qKz B j us q y c c' w hB z h2 o s fun t _ u v v' w1 hB1 l1 l2=>qU4 B _ t (Nat.lt_succ_self _) u v v' w1 hB1 l1 l2
end Go.Proofs.YtiajhekdhhhghaaGreatDoor
