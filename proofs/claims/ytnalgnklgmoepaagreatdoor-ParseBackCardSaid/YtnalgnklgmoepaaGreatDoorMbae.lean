/- The contract of block. The contracts of expression, argument, loop and param. pass of texts that are laid. The contract of guarded. The contracts of leave and claim. -/
import Derived.Test.YtnalgnklgmoepaaGreatDoorMbad
set_option linter.all false
namespace Go.Proofs.YtnalgnklgmoepaaGreatDoor
open Go Go.RowKit

/-- A call that enters a function with a body. -/
def Enters (f : Nat) : Prop := ∀ (args : Array Value) (w : World), (callFunc f args).run Tryz.prog w = .ok (.enter f args) w
def BlockRel (p : List Tok → PR Tree) (n : Nat) (R : PR (List Tree)) (w : World) (B N : Nat) (d ln c : Int) (k : Nat) (wr : World) : Prop :=
  ∃ acc l v, St w B l d wr ∧ Nd N kBlock [] 0 ln c v acc wr ∧ manyP (fun u => u.text == [125]) p k acc l = R ∧ acc.length + k ≤ n
theorem bind_out {α β : Type} {p : PR α} {f : α → List Tok → PR β} (h : p.bind f ≠ .out) : p ≠ .out := fun e => h (by rw [e]; rfl)
theorem bind_ok {α β : Type} {p : PR α} {f : α → List Tok → PR β} {a : α} {l : List Tok} (h : p = .ok a l) : p.bind f = f a l := by rw [h]; rfl
theorem bind_bad {α β : Type} {p : PR α} {f : α → List Tok → PR β} {ln c code : Int} (h : p = .bad ln c code) : p.bind f = .bad ln c code := by rw [h]; rfl

set_option maxHeartbeats 1000000 in
set_option maxRecDepth 100000 in
theorem block_does (rec : NT → Int → List Tok → PR Tree) (n : Nat) (d : Int) (hn : n ≤ 900000) (hent : ∀ x, Enters (stmtF x))
    (hst : ∀ (B : Nat) (l : List Tok) (w : World), PsAt B l d w → stmtP rec n d l ≠ .out → Calls Tryz.prog (stmtF (hdT l).text) #[.pointer (some ⟨B, 0, none⟩)] w (PPost B d w (stmtP rec n d l))) :
    Does 96 (fun p => #[p]) d (blockP rec n d) := by
  intro B l w h hno
  obtain ⟨t, r, rfl⟩ := h.ends.ne
  have S0 := St.start h
  have H := Lib.hid (peek_any B t r d _ S0.ps)
  have HN := Lib.hid (node_any t ⟨#[98, 108, 111, 99, 107]⟩ ⟨#[]⟩)
  have HS := Lib.hid S0
  have HNO := Lib.hid hno
  have HST := Lib.hid hst
  have HENT := Lib.hid hent
  clear h S0 hno hst hent
  unfold zero6 at *
  go_enter Tryz.func96, Tryz.ntmps96
  go_wp2_with fail
  refine (H.out).mono ?_
  rintro e w1 ⟨rfl, hb1⟩
  have S1 := Lib.hid (HS.out.below hb1)
  clear H HS hb1
  go_wp2_with fail
  refine (HN.out _).mono ?_
  rintro e w2 ⟨rfl, hb2⟩
  have S2 := (S1.out.below hb2).alloc (nodO kBlock [] 0 t.line t.col (.slice none 0 0))
  have N2 := Lib.hid (Nd.new kBlock [] 0 t.line t.col w2)
  have HP := Lib.hid (pass_one (S := w2.heap.size + 1) [123] S2.ps (by simp) (by simp))
  have HS2 := Lib.hid S2
  have hwN : w.heap.size < w2.heap.size := (S1.out.below hb2).lt
  have hBw := S2.hB
  clear S1 S2 hb2 HN
  unfold nodO kBlock at *
  go_wp2_with fail
  refine (HP.out).mono ?_
  rintro e w3 (⟨l3, he3, rfl, hP3, hg3⟩ | ⟨ln, c, code, he3, rfl, hg3⟩)
  · have S3 := Lib.hid (HS2.out.call hP3 hg3)
    have N3 := Lib.hid (N2.out.call hg3 (by omega))
    have HE3 := Lib.hid he3
    have hno3 : manyP (fun u => u.text == [125]) (stmtP rec n d) n [] l3 ≠ .out := by
      have := HNO.out
      unfold blockP at this
      rw [bind_ok he3] at this
      exact bind_out this
    have HNO3 := Lib.hid hno3
    clear HP HS2 N2 hP3 hg3 he3 hno3
    go_wp2_with fail
    go_loopg [] n (fun k wr => BlockRel (stmtP rec n d) n (manyP (fun u => u.text == [125]) (stmtP rec n d) n [] l3) w B w2.heap.size d t.line t.col k wr)
    case atStart => exact ⟨[], l3, _, S3.out, N3.out, rfl, by simp⟩
    case round =>
      obtain ⟨acc, l1, v, S, N, hm, hlen⟩ := hrel
      obtain ⟨t1, r1, rfl⟩ := S.ps.ends.ne
      obtain ⟨q, vn, vc, rfl⟩ := N.bd.shape
      have HA := Lib.hid (at_any B t1 r1 d [125] wr S.ps)
      have HS := Lib.hid S
      have HN := Lib.hid N
      have HM := Lib.hid hm
      clear S N hm S3 N3
      have hmf := makeFunc_run
      cases gk with
      | zero => exact absurd HM.out.symm HNO3.out
      | succ m =>
      by_cases he : t1.text = [125]
      · have heb : (t1.text == [125]) = true := by simpa using he
        rw [heb] at HA
        have hpm : manyP (fun u => u.text == [125]) (stmtP rec n d) (m + 1) acc (t1 :: r1) = .ok acc (t1 :: r1) := by
          rw [manyP]
          have : (hdT (t1 :: r1)).text = t1.text := rfl
          rw [this, heb]
          rfl
        have HPM := Lib.hid hpm
        clear hpm he
        go_wp2_with fail
        refine (HA.out).mono ?_
        rintro e w4 ⟨rfl, hb4⟩
        have S4 := HS.out.below hb4
        have HP := Lib.hid (pass_one (S := w4.heap.size) [125] S4.ps (by simp) rfl)
        have HS4 := Lib.hid S4
        have N4 := Lib.hid (HN.out.below hb4)
        clear S4 hb4 HS HN HA
        go_wp2_with fail
        refine (HP.out).mono ?_
        rintro e w5 (⟨l5, he5, rfl, hP5, hg5⟩ | ⟨ln, c, code, he5, rfl, hg5⟩)
        · have S5 := HS4.out.call hP5 hg5
          have N5 := N4.out.call hg5 (by omega)
          have HE5 := Lib.hid he5
          have hs1 := S5.lt
          have hs2 := N5.lt
          have hr := S5.res
          have hq := N5.nd
          have r0 := hr.c0; have r1' := hr.c1; have r2 := hr.c2; have r3 := hr.c3; have r4 := hr.c4; have r5 := hr.c5
          have g0 := hr.f 0 (by omega); have g1 := hr.f 1 (by omega); have g2 := hr.f 2 (by omega); have g3 := hr.f 3 (by omega); have g4 := hr.f 4 (by omega); have g5 := hr.f 5 (by omega)
          have q0 := hq.c0; have q1 := hq.c1; have q2 := hq.c2; have q3 := hq.c3; have q4 := hq.c4; have q5 := hq.c5
          have HS5 := Lib.hid S5
          have HN5 := Lib.hid N5
          clear hr hq S5 N5 hP5 hg5 he5 HP HS4 N4
          unfold kBlock at q0
          go_wp2
          refine bodyPost_ret (v := nodeV (.mk kBlock [] 0 t.line t.col acc) (.slice q vn vc)) (by simp [results, Tryz.results96, go_sem, nodeV, Tree.kind, Tree.text, Tree.num, Tree.line, Tree.col, kBlock, *]) rfl ?_
          have : blockP rec n d (t :: r) = .ok (.mk kBlock [] 0 t.line t.col acc) l5 := (bind_ok HE3.out).trans ((bind_ok (HM.out.symm.trans HPM.out)).trans (bind_ok HE5.out))
          rw [this]
          exact HS5.out.fin (HN5.out.bd.mono (by omega)) _ _ _ _ _ _
        · refine ⟨rfl, ?_⟩
          have : blockP rec n d (t :: r) = .bad ln c code := (bind_ok HE3.out).trans ((bind_ok (HM.out.symm.trans HPM.out)).trans (bind_bad he5))
          rw [this]
          exact HS4.out.pan ⟨rfl, hg5⟩
      · have heb : (t1.text == [125]) = false := by simpa using he
        rw [heb] at HA
        go_wp2_with fail
        refine (HA.out).mono ?_
        rintro e w4 ⟨rfl, hb4⟩
        have HR := Lib.hid (reader_at B t1 r1 d w4 _ rfl (HS.out.below hb4).ps)
        go_wp2_with fail
        refine (HR.out).mono ?_
        rintro e w5 ⟨rfl, hb5⟩
        have S5 := Lib.hid ((HS.out.below hb4).below hb5).drew
        have N5 := Lib.hid ((HN.out.below hb4).below hb5).drew
        have hpm : manyP (fun u => u.text == [125]) (stmtP rec n d) (m + 1) acc (t1 :: r1) = (stmtP rec n d (t1 :: r1)).bind fun t l => manyP (fun u => u.text == [125]) (stmtP rec n d) m (acc ++ [t]) l := by
          rw [manyP]
          have : (hdT (t1 :: r1)).text = t1.text := rfl
          rw [this, heb]
          rfl
        have hno4 : stmtP rec n d (t1 :: r1) ≠ .out := fun e => HNO3.out (by rw [← HM.out, hpm, e]; rfl)
        have HPM := Lib.hid hpm
        have HNO4 := Lib.hid hno4
        clear hb4 hb5 HS HN HA HR hpm hno4 he
        have hent := HENT.out t1.text
        unfold Enters at hent
        generalize hF : stmtF t1.text = f at *
        go_wp2_with fail
        have c5 := N5.out.nd.c5
        refine wp_region_T (S := fun w' => w'.cell? ⟨w2.heap.size, 5, none⟩ = some (.slice q vn vc)) (tail := fun i => decide (5 ≤ i)) (by kernel_rfl) ?_
        change wpAnyT _ _ _ _ _ _ _ _ _ (World.drew _)
        refine wpAnyT_take (i := 0) (d := 16) (v := .pointer (some ⟨w2.heap.size, 5, none⟩)) rfl rfl (by kernel_rfl) (fun _ _ _ h => h) (by rfl) ?y0 c5 ?_
        case y0 => intro w' hw'; go_simp
        try simp only [Act.put, List.setIfInBounds_toArray, List.set_cons_zero, List.set_cons_succ]
        refine wpAnyT_take (i := 1) (d := 17) (v := .slice q vn vc) rfl rfl (by kernel_rfl) (fun _ _ _ h => h) (by rfl) ?y1 c5 ?_
        case y1 => intro w' hw'; go_simp
        try simp only [Act.put, List.setIfInBounds_toArray, List.set_cons_zero, List.set_cons_succ]
        refine wpAnyT_take (i := 2) (d := 18) (v := .func (.func f) #[.pointer (some ⟨B, 0, none⟩)] #[]) rfl rfl (by kernel_rfl) (fun _ _ _ h => h) (by rfl) ?y2 c5 ?_
        case y2 => intro w' hw'; go_simp
        try simp only [Act.put, List.setIfInBounds_toArray, List.set_cons_zero, List.set_cons_succ]
        refine wpAnyT_one (i := 3) rfl (by kernel_rfl) (by rfl) (fun K hK => ?_)
        go_simp
        have HC := HST.out B (t1 :: r1) _ S5.out.ps HNO4.out
        rw [show (hdT (t1 :: r1)).text = t1.text from rfl, hF] at HC
        refine HC.mono ?_
        intro e w6 hq
        rcases hq.cases HNO4.out with ⟨t6, l6, q6, n6, c6, he6, rfl, hb6, hP6, hg6⟩ | ⟨ln, c, code, he6, rfl, hg6⟩
        · have S6 := Lib.hid (S5.out.call hP6 hg6)
          have N6 := Lib.hid (N5.out.call hg6 (by omega))
          have HB6 := Lib.hid hb6
          have hbl := N5.out.bd.lt
          have c6' := N6.out.nd.c5
          have f6' := N6.out.nd.f 5 (by omega)
          have hs6 := N6.out.lt
          have hsz5 := N5.out.lt
          have hsz6 : w5.drew.heap.size ≤ w6.heap.size := hg6.size
          clear hP6 hg6 hb6 HC hq S5 N5
          unfold nodeV
          refine hK.out _ _ (fun _ => c6') ?_
          clear hK K
          try simp only [Act.put, List.setIfInBounds_toArray, List.set_cons_zero, List.set_cons_succ]
          refine wpAnyT_one (i := 4) rfl (by kernel_rfl) (by rfl) (fun K hK => ?_)
          go_simp
          refine hK.out _ _ (fun _ => by go_simp) ?_
          clear hK K
          try simp only [Act.put, List.setIfInBounds_toArray, List.set_cons_zero, List.set_cons_succ]
          refine wpAnyT_one (i := 5) rfl (by kernel_rfl) (by rfl) (fun K hK => ?_)
          refine append_at (dd := 21) (t := t6) (u := .slice q6 n6 c6) _ _ rfl rfl N6.out.bd HB6.out (by have := (hsz5 : w2.heap.size < w5.drew.heap.size); omega) (fun g hg => (hbl g hg).2) hsz6 rfl rfl rfl (by omega) (fun v7 w7 hb7 hg7 => ?_)
          refine hK.out _ _ (fun h => absurd h (by decide)) ?_
          clear hK K
          obtain ⟨q7, n7, c7, rfl⟩ := hb7.shape
          have hff := app_fin S6.out N6.out hwN hb7 hg7
          have hs7 : w7.frozen? ⟨w2.heap.size, 5, none⟩ = false := ((N6.out.nd.grown (World.grownBy_alloc w6 _ none) (by simp)).grown hg7 (fun e => by have := (hbl _ e.symm).1; omega)).f 5 (by omega)
          have hd7 := ((N6.out.nd.grown (World.grownBy_alloc w6 _ none) (by simp)).grown hg7 (fun e => by have := (hbl _ e.symm).1; omega)).c5
          have HFF := Lib.hid hff
          clear hff hb7 hg7 S6 N6 HB6 hbl
          try simp only [Act.put, List.setIfInBounds_toArray, List.set_cons_zero, List.set_cons_succ]
          refine wpAnyT_one (i := 6) rfl (by kernel_rfl) (by rfl) (fun K hK => ?_)
          go_simp
          refine hK.out _ _ (fun h => absurd h (by decide)) ?_
          clear hK K
          try simp only [Act.put, List.setIfInBounds_toArray, List.set_cons_zero, List.set_cons_succ]
          refine wpAnyT_one (i := 7) rfl (by kernel_rfl) (by rfl) (fun K hK => ?_)
          go_simp
          refine hK.out _ _ (fun h => absurd h (by decide)) ?_
          clear hK K
          try simp only [Act.put, List.setIfInBounds_toArray, List.set_cons_zero, List.set_cons_succ]
          refine wpAnyT_done (by kernel_rfl) ?_ _
          go_wp2
          go_roundg m
          case measure => omega
          case rel => exact ⟨acc ++ [t6], l6, _, HFF.out.1, HFF.out.2, by rw [← HM.out, HPM.out, he6]; rfl, by simp; omega⟩
        · refine ⟨rfl, ?_⟩
          have : blockP rec n d (t :: r) = .bad ln c code := (bind_ok HE3.out).trans (bind_bad (HM.out.symm.trans (HPM.out.trans (bind_bad he6))))
          rw [this]
          exact S5.out.pan ⟨rfl, hg6⟩
  · refine ⟨rfl, ?_⟩
    have : blockP rec n d (t :: r) = .bad ln c code := bind_bad he3
    rw [this]
    exact HS2.out.pan ⟨rfl, hg3⟩
end Go.Proofs.YtnalgnklgmoepaaGreatDoor
namespace Go.Proofs.YtnalgnklgmoepaaGreatDoor
open Go Go.RowKit

set_option maxHeartbeats 2000000 in
set_option maxRecDepth 100000 in
theorem expression_does (rec : NT → Int → List Tok → PR Tree) (d : Int) (hb : Does 145 (fun p => #[p, .int .i64 0]) d (rec (.binary 0) d)) : Does 135 (fun p => #[p]) d (exprP rec d) := by
  intro B l w h hno
  have S0 := St.start h
  have HC := Lib.hid (hb B l _ S0.ps hno)
  have HS := Lib.hid S0
  have hmf := makeFunc_run
  have HNO := Lib.hid hno
  clear h S0 hno
  unfold zero6 at *
  go_enter Tryz.func135, Tryz.ntmps135
  go_wp2_with fail
  refine (HC.out).mono ?_
  intro e w1 hq
  rcases hq.cases HNO.out with ⟨t2, l2, q, n2, c2, he, rfl, hb, hP, hg⟩ | ⟨ln, c, code, he, rfl, hg⟩
  · have S1 := HS.out.call hP hg
    have HB := Lib.hid hb
    have HE := Lib.hid he
    have hs1 := S1.lt
    have hr := S1.res
    have r0 := hr.c0; have r1' := hr.c1; have r2 := hr.c2; have r3 := hr.c3; have r4 := hr.c4; have r5 := hr.c5
    have g0 := hr.f 0 (by omega); have g1 := hr.f 1 (by omega); have g2 := hr.f 2 (by omega); have g3 := hr.f 3 (by omega); have g4 := hr.f 4 (by omega); have g5 := hr.f 5 (by omega)
    clear hr
    have HS1 := Lib.hid S1
    clear S1 hP hg hb he hq HC HS hmf
    unfold nodeV
    go_wp2
    refine bodyPost_ret (v := nodeV t2 (.slice q n2 c2)) (by simp [results, Tryz.results135, go_sem, nodeV, *]) rfl ?_
    have hb2 : Build w1 (w.heap.size + 1) t2.kids (.slice q n2 c2) := by simpa using HB.out
    rw [show (exprP rec d) l = _ from HE.out]
    exact HS1.out.fin hb2 _ _ _ _ _ _
  · refine ⟨rfl, ?_⟩
    rw [show (exprP rec d) l = _ from he]
    exact HS.out.pan ⟨rfl, hg⟩
set_option maxHeartbeats 2000000 in
set_option maxRecDepth 100000 in
theorem argument_does (rec : NT → Int → List Tok → PR Tree) (d : Int) (he : Enters 135) (hb : Does 135 (fun p => #[p]) (d + 1) (exprP rec (d + 1))) : Does 146 (fun p => #[p]) d (argP rec d) := by
  intro B l w h hno
  have S0 := St.start h
  have HC := Lib.hid (deeper_does 135 d (rec (.binary 0)) he hb B l _ S0.ps hno)
  have HS := Lib.hid S0
  have hmf := makeFunc_run
  have HNO := Lib.hid hno
  clear h S0 hno
  unfold zero6 at *
  go_enter Tryz.func146, Tryz.ntmps146
  go_wp2_with fail
  refine (HC.out).mono ?_
  intro e w1 hq
  rcases hq.cases HNO.out with ⟨t2, l2, q, n2, c2, he, rfl, hb, hP, hg⟩ | ⟨ln, c, code, he, rfl, hg⟩
  · have S1 := HS.out.call hP hg
    have HB := Lib.hid hb
    have HE := Lib.hid he
    have hs1 := S1.lt
    have hr := S1.res
    have r0 := hr.c0; have r1' := hr.c1; have r2 := hr.c2; have r3 := hr.c3; have r4 := hr.c4; have r5 := hr.c5
    have g0 := hr.f 0 (by omega); have g1 := hr.f 1 (by omega); have g2 := hr.f 2 (by omega); have g3 := hr.f 3 (by omega); have g4 := hr.f 4 (by omega); have g5 := hr.f 5 (by omega)
    clear hr
    have HS1 := Lib.hid S1
    clear S1 hP hg hb he hq HC HS hmf
    unfold nodeV
    go_wp2
    refine bodyPost_ret (v := nodeV t2 (.slice q n2 c2)) (by simp [results, Tryz.results146, go_sem, nodeV, *]) rfl ?_
    have hb2 : Build w1 (w.heap.size + 1) t2.kids (.slice q n2 c2) := by simpa using HB.out
    rw [show (argP rec d) l = _ from HE.out]
    exact HS1.out.fin hb2 _ _ _ _ _ _
  · refine ⟨rfl, ?_⟩
    rw [show (argP rec d) l = _ from he]
    exact HS.out.pan ⟨rfl, hg⟩
set_option maxHeartbeats 2000000 in
set_option maxRecDepth 100000 in
theorem loop_does (rec : NT → Int → List Tok → PR Tree) (d : Int) (hb : Does 134 (fun p => #[p, .string ⟨#[119, 104, 105, 108, 101]⟩]) d (guardedP rec kWhile d)) : Does 120 (fun p => #[p]) d (guardedP rec kWhile d) := by
  intro B l w h hno
  have S0 := St.start h
  have HC := Lib.hid (hb B l _ S0.ps hno)
  have HS := Lib.hid S0
  have hmf := makeFunc_run
  have HNO := Lib.hid hno
  clear h S0 hno
  unfold zero6 at *
  go_enter Tryz.func120, Tryz.ntmps120
  go_wp2_with fail
  refine (HC.out).mono ?_
  intro e w1 hq
  rcases hq.cases HNO.out with ⟨t2, l2, q, n2, c2, he, rfl, hb, hP, hg⟩ | ⟨ln, c, code, he, rfl, hg⟩
  · have S1 := HS.out.call hP hg
    have HB := Lib.hid hb
    have HE := Lib.hid he
    have hs1 := S1.lt
    have hr := S1.res
    have r0 := hr.c0; have r1' := hr.c1; have r2 := hr.c2; have r3 := hr.c3; have r4 := hr.c4; have r5 := hr.c5
    have g0 := hr.f 0 (by omega); have g1 := hr.f 1 (by omega); have g2 := hr.f 2 (by omega); have g3 := hr.f 3 (by omega); have g4 := hr.f 4 (by omega); have g5 := hr.f 5 (by omega)
    clear hr
    have HS1 := Lib.hid S1
    clear S1 hP hg hb he hq HC HS hmf
    unfold nodeV
    go_wp2
    refine bodyPost_ret (v := nodeV t2 (.slice q n2 c2)) (by simp [results, Tryz.results120, go_sem, nodeV, *]) rfl ?_
    have hb2 : Build w1 (w.heap.size + 1) t2.kids (.slice q n2 c2) := by simpa using HB.out
    rw [show (guardedP rec kWhile d) l = _ from HE.out]
    exact HS1.out.fin hb2 _ _ _ _ _ _
  · refine ⟨rfl, ?_⟩
    rw [show (guardedP rec kWhile d) l = _ from he]
    exact HS.out.pan ⟨rfl, hg⟩
set_option maxHeartbeats 2000000 in
set_option maxRecDepth 100000 in
theorem param_does (d : Int) (hb : Does 92 (fun p => #[p, .string ⟨#[112, 97, 114, 97, 109]⟩, .bool false]) d (declaredP kParam false)) : Does 94 (fun p => #[p]) d (declaredP kParam false) := by
  intro B l w h hno
  have S0 := St.start h
  have HC := Lib.hid (hb B l _ S0.ps hno)
  have HS := Lib.hid S0
  have hmf := makeFunc_run
  have HNO := Lib.hid hno
  clear h S0 hno
  unfold zero6 at *
  go_enter Tryz.func94, Tryz.ntmps94
  go_wp2_with fail
  refine (HC.out).mono ?_
  intro e w1 hq
  rcases hq.cases HNO.out with ⟨t2, l2, q, n2, c2, he, rfl, hb, hP, hg⟩ | ⟨ln, c, code, he, rfl, hg⟩
  · have S1 := HS.out.call hP hg
    have HB := Lib.hid hb
    have HE := Lib.hid he
    have hs1 := S1.lt
    have hr := S1.res
    have r0 := hr.c0; have r1' := hr.c1; have r2 := hr.c2; have r3 := hr.c3; have r4 := hr.c4; have r5 := hr.c5
    have g0 := hr.f 0 (by omega); have g1 := hr.f 1 (by omega); have g2 := hr.f 2 (by omega); have g3 := hr.f 3 (by omega); have g4 := hr.f 4 (by omega); have g5 := hr.f 5 (by omega)
    clear hr
    have HS1 := Lib.hid S1
    clear S1 hP hg hb he hq HC HS hmf
    unfold nodeV
    go_wp2
    refine bodyPost_ret (v := nodeV t2 (.slice q n2 c2)) (by simp [results, Tryz.results94, go_sem, nodeV, *]) rfl ?_
    have hb2 : Build w1 (w.heap.size + 1) t2.kids (.slice q n2 c2) := by simpa using HB.out
    rw [show (declaredP kParam false) l = _ from HE.out]
    exact HS1.out.fin hb2 _ _ _ _ _ _
  · refine ⟨rfl, ?_⟩
    rw [show (declaredP kParam false) l = _ from he]
    exact HS.out.pan ⟨rfl, hg⟩
end Go.Proofs.YtnalgnklgmoepaaGreatDoor
namespace Go.Proofs.YtnalgnklgmoepaaGreatDoor
open Go Go.RowKit

theorem hdT_cons (t : Tok) (r : List Tok) : hdT (t :: r) = t := rfl
/-- pass of texts that are laid for it. -/
theorem pass_lit {B S : Nat} {l : List Tok} {d : Int} {w : World} (xs : List (List UInt8)) (h : PsAt B l d w) (hx : ∀ x ∈ xs, x ≠ []) (hn : xs.length ≤ 10) (hS : w.heap.size = S) :
    Calls Tryz.prog 97 #[.pointer (some ⟨B, 0, none⟩), .slice (some ⟨S, 0, none⟩) xs.length xs.length] (w.alloc (.cells (xs.map fun x => .string ⟨x.toArray⟩).toArray 9)) fun e w' =>
      (∃ l', passP xs l = .ok () l' ∧ e = .returned (.tuple #[]) ∧ PsAt B l' d w' ∧ w.grownBy w' (some B)) ∨
      ∃ ln c code, passP xs l = .bad ln c code ∧ e = .panicked [{ v := faultV ln c code, recovered := false }] ∧ w.grownBy w' (some B) := by
  subst hS
  refine (pass_any B w.heap.size xs.length xs l d (w.alloc (.cells (xs.map fun x => .string ⟨x.toArray⟩).toArray 9)) (h.below ((Below.refl _ _).alloc (Nat.le_refl _) _)) h.lt (fun i hi => ?_) hx (Nat.le_refl _) hn).mono fun e w' hq => ?_
  · have hg := cell_of_row (w.alloc (.cells (xs.map fun x => .string ⟨x.toArray⟩).toArray 9)) w.heap.size i _ 9 (0, 0) (heap_alloc_new w _)
    rw [hg]
    simp [hi]
  · have hga := World.grownBy_alloc w (.cells (xs.map fun x => .string ⟨x.toArray⟩).toArray 9) (some B)
    rcases hq.cases (passP_out _ _) with ⟨l', h1, h2, h3, h4⟩ | ⟨ln, c, code, h1, h2, h3⟩
    · exact .inl ⟨l', h1, h2, h3, grown_trans hga h4⟩
    · exact .inr ⟨ln, c, code, h1, h2, grown_trans hga h3⟩

end Go.Proofs.YtnalgnklgmoepaaGreatDoor
namespace Go.Proofs.YtnalgnklgmoepaaGreatDoor
open Go Go.RowKit

set_option maxHeartbeats 2000000 in
set_option maxRecDepth 100000 in
theorem guarded_does (rec : NT → Int → List Tok → PR Tree) (word : List UInt8) (d : Int) (hw : word ≠ []) (he : Enters 96) (hex : Does 135 (fun p => #[p]) d (exprP rec d)) (hbl : Does 96 (fun p => #[p]) (d + 1) (rec .block (d + 1))) : Does 134 (fun p => #[p, .string ⟨word.toArray⟩]) d (guardedP rec word d) := by
  intro B l w h hno
  obtain ⟨t, r, rfl⟩ := h.ends.ne
  have S0 := St.start h
  have hBw := S0.hB
  have HNO := Lib.hid hno
  have S0 := Lib.hid S0
  have hmf := makeFunc_run
  have hft := field_text
  have hfk := field_kind
  have HW := Lib.hid hw
  have HEX := Lib.hid hex
  have HBL := Lib.hid (deeper_does 96 d (rec .block) he hbl)
  clear hw he hex hbl
  clear h hno
  unfold zero6 at *
  go_enter Tryz.func134, Tryz.ntmps134
  have H := Lib.hid (peek_any B t r d _ S0.out.ps)
  go_wp2_with fail
  refine (H.out).mono ?_
  rintro e w1 ⟨rfl, hb1⟩
  have S1 := Lib.hid (S0.out.below hb1)
  clear S0
  clear H hb1
  have H := Lib.hid (node_any t ⟨word.toArray⟩ ⟨#[]⟩)
  go_wp2_with fail
  refine (H.out _).mono ?_
  rintro e w2 ⟨rfl, hb2⟩
  have S2 := Lib.hid (S1.out.below hb2)
  clear S1
  clear H hb2
  have hwN : w.heap.size < w2.heap.size := S2.out.lt
  have N3 := Lib.hid (Nd.new word [] 0 t.line t.col w2)
  have S3 := Lib.hid (S2.out.alloc (nodO word [] 0 t.line t.col (.slice none 0 0)))
  clear S2
  unfold nodO at *
  have hw := HW.out
  have H := Lib.hid (pass_lit (S := w2.heap.size + 1) [word, [40]] S3.out.ps (by simp [*, kProgram, kGlobal, kFunc, kParam, kType, kNum, kBlock, kLocal, kIf, kElse, kWhile, kReturn, kAssert, kAssume, kAssign, kNondet, kResult, kCall, kName, kIndex, kBinary, kUnary, kCast, kTrue, kFalse, kVoid]) (by simp) (by simp))
  simp only [List.map, List.length] at H
  go_wp2_with fail
  refine (H.out).mono ?_
  rintro e w4 (⟨l4, he4, rfl, hP4, hg4⟩ | ⟨ln, c, code, he4, rfl, hg4⟩)
  rotate_left
  · refine ⟨rfl, ?_⟩
    have hbad : (guardedP rec word d) (t :: r) = .bad ln c code := by simp [guardedP, PR.bind, hdT_cons, he4]
    rw [hbad]
    exact S3.out.pan ⟨rfl, hg4⟩
  have S4 := Lib.hid (S3.out.call hP4 hg4)
  have N4 := Lib.hid (N3.out.call hg4 (by omega))
  clear S3 N3
  have HE4 := Lib.hid he4
  clear H he4 hP4 hg4
  clear hw
  have hnoc : exprP rec d l4 ≠ .out := fun e => HNO.out (by simp [guardedP, PR.bind, hdT_cons, HE4.out, e])
  have HNOC := Lib.hid hnoc
  clear hnoc
  have S5d := Lib.hid S4.out.drew
  have N5d := Lib.hid N4.out.drew
  clear S4 N4
  go_wp2_with fail
  have hcl := N5d.out.nd.c5
  refine wp_region_T (S := fun w' => w'.cell? ⟨w2.heap.size, 5, none⟩ = some (.slice none 0 0)) (tail := fun i => decide (5 ≤ i)) (by kernel_rfl) ?_
  change wpAnyT _ _ _ _ _ _ _ _ _ (World.drew _)
  refine wpAnyT_take (i := 0) (d := 14) (v := .pointer (some ⟨w2.heap.size, 5, none⟩)) rfl rfl (by kernel_rfl) (fun _ _ _ h => h) (by rfl) ?y0 hcl ?_
  case y0 => intro w' hw'; go_simp
  try simp only [Act.put, List.setIfInBounds_toArray, List.set_cons_zero, List.set_cons_succ]
  refine wpAnyT_take (i := 1) (d := 15) (v := .slice none 0 0) rfl rfl (by kernel_rfl) (fun _ _ _ h => h) (by rfl) ?y1 hcl ?_
  case y1 => intro w' hw'; go_simp
  try simp only [Act.put, List.setIfInBounds_toArray, List.set_cons_zero, List.set_cons_succ]
  refine wpAnyT_take (i := 2) (d := 16) (v := .pointer (some ⟨B, 0, none⟩)) rfl rfl (by kernel_rfl) (fun _ _ _ h => h) (by rfl) ?y2 hcl ?_
  case y2 => intro w' hw'; go_simp
  try simp only [Act.put, List.setIfInBounds_toArray, List.set_cons_zero, List.set_cons_succ]
  refine wpAnyT_one (i := 3) rfl (by kernel_rfl) (by rfl) (fun K hK => ?_)
  go_simp
  have HC := HEX.out B l4 _ S5d.out.ps HNOC.out
  refine HC.mono ?_
  intro e w5a hq
  rcases hq.cases HNOC.out with ⟨t5, l5, q5, n5, c5, he5, rfl, hb6, hP6, hg6⟩ | ⟨ln, c, code, he5, rfl, hg6⟩
  rotate_left
  · refine ⟨rfl, ?_⟩
    have hbad : (guardedP rec word d) (t :: r) = .bad ln c code := by simp [guardedP, PR.bind, hdT_cons, HE4.out, he5]
    rw [hbad]
    exact S5d.out.pan ⟨rfl, hg6⟩
  have S6 := Lib.hid (S5d.out.call hP6 hg6)
  have N6 := Lib.hid (N5d.out.call hg6 (by omega))
  have HB6 := Lib.hid hb6
  have hbl := N5d.out.bd.lt
  have c6' := N6.out.nd.c5
  have f6' := N6.out.nd.f 5 (by omega)
  have hs6 := N6.out.lt
  have hsz5 := N5d.out.lt
  have hsz6 := hg6.size
  clear hP6 hg6 hb6 HC hq S5d N5d
  unfold nodeV
  refine hK.out _ _ (fun _ => c6') ?_
  clear hK K
  try simp only [Act.put, List.setIfInBounds_toArray, List.set_cons_zero, List.set_cons_succ]
  refine wpAnyT_one (i := 4) rfl (by kernel_rfl) (by rfl) (fun K hK => ?_)
  go_simp
  refine hK.out _ _ (fun _ => by go_simp) ?_
  clear hK K
  try simp only [Act.put, List.setIfInBounds_toArray, List.set_cons_zero, List.set_cons_succ]
  refine wpAnyT_one (i := 5) rfl (by kernel_rfl) (by rfl) (fun K hK => ?_)
  refine append_at (dd := 19) (t := t5) (u := .slice q5 n5 c5) _ _ rfl rfl N6.out.bd HB6.out (by omega) (fun g hg => (hbl g hg).2) hsz6 rfl rfl rfl (by simp) (fun v7 w5 hb7 hg7 => ?_)
  refine hK.out _ _ (fun h => absurd h (by decide)) ?_
  clear hK K
  obtain ⟨qq5, nn5, cc5, rfl⟩ := hb7.shape
  have hff := app_fin S6.out N6.out hwN hb7 hg7
  have hs7 : w5.frozen? ⟨w2.heap.size, 5, none⟩ = false := ((N6.out.nd.grown (World.grownBy_alloc w5a _ none) (by simp)).grown hg7 (fun e => by have := (hbl _ e.symm).1; omega)).f 5 (by omega)
  have hd7 := ((N6.out.nd.grown (World.grownBy_alloc w5a _ none) (by simp)).grown hg7 (fun e => by have := (hbl _ e.symm).1; omega)).c5
  have HFF := Lib.hid hff
  clear hff hb7 hg7 S6 N6 HB6 hbl hcl c6' f6' hsz5 hsz6
  try simp only [Act.put, List.setIfInBounds_toArray, List.set_cons_zero, List.set_cons_succ]
  refine wpAnyT_one (i := 6) rfl (by kernel_rfl) (by rfl) (fun K hK => ?_)
  go_simp
  refine hK.out _ _ (fun h => absurd h (by decide)) ?_
  clear hK K
  try simp only [Act.put, List.setIfInBounds_toArray, List.set_cons_zero, List.set_cons_succ]
  refine wpAnyT_one (i := 7) rfl (by kernel_rfl) (by rfl) (fun K hK => ?_)
  go_simp
  refine hK.out _ _ (fun h => absurd h (by decide)) ?_
  clear hK K
  try simp only [Act.put, List.setIfInBounds_toArray, List.set_cons_zero, List.set_cons_succ]
  refine wpAnyT_done (by kernel_rfl) ?_ _
  clear hs7 hd7
  have S5 := Lib.hid HFF.out.1
  have N5 := Lib.hid HFF.out.2
  have HE5 := Lib.hid he5
  clear HFF he5 HNOC
  have hszn := N5.out.lt
  simp only [World.size_setCell] at hszn
  have H := Lib.hid (pass_lit (S := w5.heap.size) [[41]] S5.out.ps (by simp) (by simp) (by simp))
  simp only [List.map, List.length] at H
  go_wp2_with fail
  refine (H.out).mono ?_
  rintro e w6 (⟨l6, he6, rfl, hP6, hg6⟩ | ⟨ln, c, code, he6, rfl, hg6⟩)
  rotate_left
  · refine ⟨rfl, ?_⟩
    have hbad : (guardedP rec word d) (t :: r) = .bad ln c code := by simp [guardedP, PR.bind, hdT_cons, HE4.out, HE5.out, he6]
    rw [hbad]
    exact S5.out.pan ⟨rfl, hg6⟩
  have S6 := Lib.hid (S5.out.call hP6 hg6)
  have N6 := Lib.hid (N5.out.call hg6 (by omega))
  clear S5 N5
  have HE6 := Lib.hid he6
  clear H he6 hP6 hg6
  have hnoc : deeperP d (rec .block) l6 ≠ .out := fun e => HNO.out (by simp [guardedP, PR.bind, hdT_cons, HE4.out, HE5.out, HE6.out, e])
  have HNOC := Lib.hid hnoc
  clear hnoc
  have S7d := Lib.hid S6.out.drew
  have N7d := Lib.hid N6.out.drew
  clear S6 N6
  go_wp2_with fail
  have hcl := N7d.out.nd.c5
  refine wp_region_T (S := fun w' => w'.cell? ⟨w2.heap.size, 5, none⟩ = some (.slice qq5 nn5 cc5)) (tail := fun i => decide (7 ≤ i)) (by kernel_rfl) ?_
  change wpAnyT _ _ _ _ _ _ _ _ _ (World.drew _)
  refine wpAnyT_take (i := 0) (d := 24) (v := .pointer (some ⟨w2.heap.size, 5, none⟩)) rfl rfl (by kernel_rfl) (fun _ _ _ h => h) (by rfl) ?y0 hcl ?_
  case y0 => intro w' hw'; go_simp
  try simp only [Act.put, List.setIfInBounds_toArray, List.set_cons_zero, List.set_cons_succ]
  refine wpAnyT_take (i := 1) (d := 25) (v := .slice qq5 nn5 cc5) rfl rfl (by kernel_rfl) (fun _ _ _ h => h) (by rfl) ?y1 hcl ?_
  case y1 => intro w' hw'; go_simp
  try simp only [Act.put, List.setIfInBounds_toArray, List.set_cons_zero, List.set_cons_succ]
  refine wpAnyT_take (i := 2) (d := 26) (v := .pointer (some ⟨B, 0, none⟩)) rfl rfl (by kernel_rfl) (fun _ _ _ h => h) (by rfl) ?y2 hcl ?_
  case y2 => intro w' hw'; go_simp
  try simp only [Act.put, List.setIfInBounds_toArray, List.set_cons_zero, List.set_cons_succ]
  refine wpAnyT_take (i := 3) (d := 27) (v := .pointer (some ⟨B, 0, none⟩)) rfl rfl (by kernel_rfl) (fun _ _ _ h => h) (by rfl) ?y3 hcl ?_
  case y3 => intro w' hw'; go_simp
  try simp only [Act.put, List.setIfInBounds_toArray, List.set_cons_zero, List.set_cons_succ]
  refine wpAnyT_take (i := 4) (d := 28) (v := .func (.func 96) #[.pointer (some ⟨B, 0, none⟩)] #[]) rfl rfl (by kernel_rfl) (fun _ _ _ h => h) (by rfl) ?y4 hcl ?_
  case y4 => intro w' hw'; go_simp
  try simp only [Act.put, List.setIfInBounds_toArray, List.set_cons_zero, List.set_cons_succ]
  refine wpAnyT_one (i := 5) rfl (by kernel_rfl) (by rfl) (fun K hK => ?_)
  go_simp
  have HC := HBL.out B l6 _ S7d.out.ps HNOC.out
  refine HC.mono ?_
  intro e w7a hq
  rcases hq.cases HNOC.out with ⟨t7, l7, qq7, nn7, cc7, he7, rfl, hb6, hP6, hg6⟩ | ⟨ln, c, code, he7, rfl, hg6⟩
  rotate_left
  · refine ⟨rfl, ?_⟩
    have hbad : (guardedP rec word d) (t :: r) = .bad ln c code := by simp [guardedP, PR.bind, hdT_cons, HE4.out, HE5.out, HE6.out, he7]
    rw [hbad]
    exact S7d.out.pan ⟨rfl, hg6⟩
  have S6 := Lib.hid (S7d.out.call hP6 hg6)
  have N6 := Lib.hid (N7d.out.call hg6 (by omega))
  have HB6 := Lib.hid hb6
  have hbl := N7d.out.bd.lt
  have c6' := N6.out.nd.c5
  have f6' := N6.out.nd.f 5 (by omega)
  have hs6 := N6.out.lt
  have hsz5 := N7d.out.lt
  have hsz6 := hg6.size
  clear hP6 hg6 hb6 HC hq S7d N7d
  unfold nodeV
  refine hK.out _ _ (fun _ => c6') ?_
  clear hK K
  try simp only [Act.put, List.setIfInBounds_toArray, List.set_cons_zero, List.set_cons_succ]
  refine wpAnyT_one (i := 6) rfl (by kernel_rfl) (by rfl) (fun K hK => ?_)
  go_simp
  refine hK.out _ _ (fun _ => by go_simp) ?_
  clear hK K
  try simp only [Act.put, List.setIfInBounds_toArray, List.set_cons_zero, List.set_cons_succ]
  refine wpAnyT_one (i := 7) rfl (by kernel_rfl) (by rfl) (fun K hK => ?_)
  refine append_at (dd := 31) (t := t7) (u := .slice qq7 nn7 cc7) _ _ rfl rfl N6.out.bd HB6.out (by omega) (fun g hg => (hbl g hg).2) hsz6 rfl rfl rfl (by simp) (fun v7 w7 hb7 hg7 => ?_)
  refine hK.out _ _ (fun h => absurd h (by decide)) ?_
  clear hK K
  obtain ⟨qq7, nn7, cc7, rfl⟩ := hb7.shape
  have hff := app_fin S6.out N6.out hwN hb7 hg7
  have hs7 : w7.frozen? ⟨w2.heap.size, 5, none⟩ = false := ((N6.out.nd.grown (World.grownBy_alloc w7a _ none) (by simp)).grown hg7 (fun e => by have := (hbl _ e.symm).1; omega)).f 5 (by omega)
  have hd7 := ((N6.out.nd.grown (World.grownBy_alloc w7a _ none) (by simp)).grown hg7 (fun e => by have := (hbl _ e.symm).1; omega)).c5
  have HFF := Lib.hid hff
  clear hff hb7 hg7 S6 N6 HB6 hbl hcl c6' f6' hsz5 hsz6
  try simp only [Act.put, List.setIfInBounds_toArray, List.set_cons_zero, List.set_cons_succ]
  refine wpAnyT_one (i := 8) rfl (by kernel_rfl) (by rfl) (fun K hK => ?_)
  go_simp
  refine hK.out _ _ (fun h => absurd h (by decide)) ?_
  clear hK K
  try simp only [Act.put, List.setIfInBounds_toArray, List.set_cons_zero, List.set_cons_succ]
  refine wpAnyT_one (i := 9) rfl (by kernel_rfl) (by rfl) (fun K hK => ?_)
  go_simp
  refine hK.out _ _ (fun h => absurd h (by decide)) ?_
  clear hK K
  try simp only [Act.put, List.setIfInBounds_toArray, List.set_cons_zero, List.set_cons_succ]
  refine wpAnyT_done (by kernel_rfl) ?_ _
  clear hs7 hd7
  have S7 := Lib.hid HFF.out.1
  have N7 := Lib.hid HFF.out.2
  have HE7 := Lib.hid he7
  clear HFF he7 HNOC
  have hszn := N7.out.lt
  simp only [World.size_setCell] at hszn
  have S9 := S7.out
  have N9 := N7.out
  have hs1 := S9.lt
  have hs2 := N9.lt
  simp only [World.size_setCell] at hs1 hs2
  have hr := S9.res
  have r0 := hr.c0; have r1' := hr.c1; have r2 := hr.c2; have r3 := hr.c3; have r4 := hr.c4; have r5 := hr.c5
  have g0 := hr.f 0 (by omega); have g1 := hr.f 1 (by omega); have g2 := hr.f 2 (by omega); have g3 := hr.f 3 (by omega); have g4 := hr.f 4 (by omega); have g5 := hr.f 5 (by omega)
  clear hr
  have hq := N9.nd
  have q0 := hq.c0; have q1 := hq.c1; have q2 := hq.c2; have q3 := hq.c3; have q4 := hq.c4; have q5 := hq.c5
  clear hq
  have HS9 := Lib.hid S9
  have HN9 := Lib.hid N9
  clear S9 N9 S7 N7
  skip
  go_wp2
  refine bodyPost_ret (v := nodeV (.mk word [] 0 t.line t.col [t5, t7]) (.slice qq7 nn7 cc7)) (by simp [results, Tryz.results134, go_sem, nodeV, Tree.kind, Tree.text, Tree.num, Tree.line, Tree.col, Tree.kids, kProgram, kGlobal, kFunc, kParam, kType, kNum, kBlock, kLocal, kIf, kElse, kWhile, kReturn, kAssert, kAssume, kAssign, kNondet, kResult, kCall, kName, kIndex, kBinary, kUnary, kCast, kTrue, kFalse, kVoid, *]) rfl ?_
  have hgood : (guardedP rec word d) (t :: r) = .ok (.mk word [] 0 t.line t.col [t5, t7]) l7 := by simp [guardedP, PR.bind, hdT_cons, HE4.out, HE5.out, HE6.out, HE7.out]
  rw [hgood]
  exact HS9.out.fin (HN9.out.bd.mono (by omega)) _ _ _ _ _ _
end Go.Proofs.YtnalgnklgmoepaaGreatDoor
namespace Go.Proofs.YtnalgnklgmoepaaGreatDoor
open Go Go.RowKit

set_option maxHeartbeats 2000000 in
set_option maxRecDepth 100000 in
theorem leave_does (rec : NT → Int → List Tok → PR Tree) (d : Int) (hex : Does 135 (fun p => #[p]) d (exprP rec d)) : Does 121 (fun p => #[p]) d (leaveP rec d) := by
  intro B l w h hno
  obtain ⟨t, r, rfl⟩ := h.ends.ne
  have S0 := St.start h
  have hBw := S0.hB
  have HNO := Lib.hid hno
  have S0 := Lib.hid S0
  have hmf := makeFunc_run
  have hft := field_text
  have hfk := field_kind
  have HEX := Lib.hid hex
  clear hex
  clear h hno
  unfold zero6 at *
  go_enter Tryz.func121, Tryz.ntmps121
  have H := Lib.hid (peek_any B t r d _ S0.out.ps)
  go_wp2_with fail
  refine (H.out).mono ?_
  rintro e w1 ⟨rfl, hb1⟩
  have S1 := Lib.hid (S0.out.below hb1)
  clear S0
  clear H hb1
  have H := Lib.hid (node_any t ⟨#[114, 101, 116, 117, 114, 110]⟩ ⟨#[]⟩)
  go_wp2_with fail
  refine (H.out _).mono ?_
  rintro e w2 ⟨rfl, hb2⟩
  have S2 := Lib.hid (S1.out.below hb2)
  clear S1
  clear H hb2
  have hwN : w.heap.size < w2.heap.size := S2.out.lt
  have N3 := Lib.hid (Nd.new kReturn [] 0 t.line t.col w2)
  have S3 := Lib.hid (S2.out.alloc (nodO kReturn [] 0 t.line t.col (.slice none 0 0)))
  clear S2
  unfold nodO at *
  have H := Lib.hid (pass_lit (S := w2.heap.size + 1) [kReturn] S3.out.ps (by simp [*, kProgram, kGlobal, kFunc, kParam, kType, kNum, kBlock, kLocal, kIf, kElse, kWhile, kReturn, kAssert, kAssume, kAssign, kNondet, kResult, kCall, kName, kIndex, kBinary, kUnary, kCast, kTrue, kFalse, kVoid]) (by simp) (by simp))
  simp only [List.map, List.length] at H
  go_wp2_with fail
  refine (H.out).mono ?_
  rintro e w4 (⟨l4, he4, rfl, hP4, hg4⟩ | ⟨ln, c, code, he4, rfl, hg4⟩)
  rotate_left
  · refine ⟨rfl, ?_⟩
    have hbad : (leaveP rec d) (t :: r) = .bad ln c code := by simp only [Bool.false_eq_true, if_false, if_true, reduceIte, Bool.not_false, Bool.not_true, Bool.false_or, Bool.true_or, Bool.or_false, Bool.or_true, Bool.and_true, Bool.and_false, Bool.false_and, Bool.true_and, List.nil_append, List.cons_append, List.append_nil, leaveP, PR.bind, hdT_cons, he4]
    rw [hbad]
    exact S3.out.pan ⟨rfl, hg4⟩
  have S4 := Lib.hid (S3.out.call hP4 hg4)
  have N4 := Lib.hid (N3.out.call hg4 (by omega))
  clear S3 N3
  have HE4 := Lib.hid he4
  clear H he4 hP4 hg4
  obtain ⟨t1, r1, hlt1⟩ := S4.out.ps.ends.ne
  subst hlt1
  cases hf1 : (t1.text == [59])
  case false =>
    have H := Lib.hid (at_any B t1 r1 d [59] _ S4.out.ps)
    rw [hf1] at H
    go_wp2_with fail
    refine (H.out).mono ?_
    rintro e w5 ⟨rfl, hb5⟩
    have S5 := Lib.hid (S4.out.below hb5)
    have N5 := Lib.hid (N4.out.below hb5)
    clear S4 N4
    clear H hb5
    have hnoc : exprP rec d (t1 :: r1) ≠ .out := fun e => HNO.out (by simp only [Bool.false_eq_true, if_false, if_true, reduceIte, Bool.not_false, Bool.not_true, Bool.false_or, Bool.true_or, Bool.or_false, Bool.or_true, Bool.and_true, Bool.and_false, Bool.false_and, Bool.true_and, List.nil_append, List.cons_append, List.append_nil, leaveP, hf1, PR.bind, hdT_cons, HE4.out, e])
    have HNOC := Lib.hid hnoc
    clear hnoc
    have S6d := Lib.hid S5.out.drew
    have N6d := Lib.hid N5.out.drew
    clear S5 N5
    go_wp2_with fail
    have hcl := N6d.out.nd.c5
    refine wp_region_T (S := fun w' => w'.cell? ⟨w2.heap.size, 5, none⟩ = some (.slice none 0 0)) (tail := fun i => decide (5 ≤ i)) (by kernel_rfl) ?_
    change wpAnyT _ _ _ _ _ _ _ _ _ (World.drew _)
    refine wpAnyT_take (i := 0) (d := 13) (v := .pointer (some ⟨w2.heap.size, 5, none⟩)) rfl rfl (by kernel_rfl) (fun _ _ _ h => h) (by rfl) ?y0 hcl ?_
    case y0 => intro w' hw'; go_simp
    try simp only [Act.put, List.setIfInBounds_toArray, List.set_cons_zero, List.set_cons_succ]
    refine wpAnyT_take (i := 1) (d := 14) (v := .slice none 0 0) rfl rfl (by kernel_rfl) (fun _ _ _ h => h) (by rfl) ?y1 hcl ?_
    case y1 => intro w' hw'; go_simp
    try simp only [Act.put, List.setIfInBounds_toArray, List.set_cons_zero, List.set_cons_succ]
    refine wpAnyT_take (i := 2) (d := 15) (v := .pointer (some ⟨B, 0, none⟩)) rfl rfl (by kernel_rfl) (fun _ _ _ h => h) (by rfl) ?y2 hcl ?_
    case y2 => intro w' hw'; go_simp
    try simp only [Act.put, List.setIfInBounds_toArray, List.set_cons_zero, List.set_cons_succ]
    refine wpAnyT_one (i := 3) rfl (by kernel_rfl) (by rfl) (fun K hK => ?_)
    go_simp
    have HC := HEX.out B (t1 :: r1) _ S6d.out.ps HNOC.out
    refine HC.mono ?_
    intro e w6a hq
    rcases hq.cases HNOC.out with ⟨t6, l6, q6, n6, c6, he6, rfl, hb6, hP6, hg6⟩ | ⟨ln, c, code, he6, rfl, hg6⟩
    rotate_left
    · refine ⟨rfl, ?_⟩
      have hbad : (leaveP rec d) (t :: r) = .bad ln c code := by simp only [Bool.false_eq_true, if_false, if_true, reduceIte, Bool.not_false, Bool.not_true, Bool.false_or, Bool.true_or, Bool.or_false, Bool.or_true, Bool.and_true, Bool.and_false, Bool.false_and, Bool.true_and, List.nil_append, List.cons_append, List.append_nil, leaveP, hf1, PR.bind, hdT_cons, HE4.out, he6]
      rw [hbad]
      exact S6d.out.pan ⟨rfl, hg6⟩
    have S6 := Lib.hid (S6d.out.call hP6 hg6)
    have N6 := Lib.hid (N6d.out.call hg6 (by omega))
    have HB6 := Lib.hid hb6
    have hbl := N6d.out.bd.lt
    have c6' := N6.out.nd.c5
    have f6' := N6.out.nd.f 5 (by omega)
    have hs6 := N6.out.lt
    have hsz5 := N6d.out.lt
    have hsz6 := hg6.size
    clear hP6 hg6 hb6 HC hq S6d N6d
    unfold nodeV
    refine hK.out _ _ (fun _ => c6') ?_
    clear hK K
    try simp only [Act.put, List.setIfInBounds_toArray, List.set_cons_zero, List.set_cons_succ]
    refine wpAnyT_one (i := 4) rfl (by kernel_rfl) (by rfl) (fun K hK => ?_)
    go_simp
    refine hK.out _ _ (fun _ => by go_simp) ?_
    clear hK K
    try simp only [Act.put, List.setIfInBounds_toArray, List.set_cons_zero, List.set_cons_succ]
    refine wpAnyT_one (i := 5) rfl (by kernel_rfl) (by rfl) (fun K hK => ?_)
    refine append_at (dd := 18) (t := t6) (u := .slice q6 n6 c6) _ _ rfl rfl N6.out.bd HB6.out (by omega) (fun g hg => (hbl g hg).2) hsz6 rfl rfl rfl (by simp) (fun v7 w6 hb7 hg7 => ?_)
    refine hK.out _ _ (fun h => absurd h (by decide)) ?_
    clear hK K
    obtain ⟨qq6, nn6, cc6, rfl⟩ := hb7.shape
    have hff := app_fin S6.out N6.out hwN hb7 hg7
    have hs7 : w6.frozen? ⟨w2.heap.size, 5, none⟩ = false := ((N6.out.nd.grown (World.grownBy_alloc w6a _ none) (by simp)).grown hg7 (fun e => by have := (hbl _ e.symm).1; omega)).f 5 (by omega)
    have hd7 := ((N6.out.nd.grown (World.grownBy_alloc w6a _ none) (by simp)).grown hg7 (fun e => by have := (hbl _ e.symm).1; omega)).c5
    have HFF := Lib.hid hff
    clear hff hb7 hg7 S6 N6 HB6 hbl hcl c6' f6' hsz5 hsz6
    try simp only [Act.put, List.setIfInBounds_toArray, List.set_cons_zero, List.set_cons_succ]
    refine wpAnyT_one (i := 6) rfl (by kernel_rfl) (by rfl) (fun K hK => ?_)
    go_simp
    refine hK.out _ _ (fun h => absurd h (by decide)) ?_
    clear hK K
    try simp only [Act.put, List.setIfInBounds_toArray, List.set_cons_zero, List.set_cons_succ]
    refine wpAnyT_one (i := 7) rfl (by kernel_rfl) (by rfl) (fun K hK => ?_)
    go_simp
    refine hK.out _ _ (fun h => absurd h (by decide)) ?_
    clear hK K
    try simp only [Act.put, List.setIfInBounds_toArray, List.set_cons_zero, List.set_cons_succ]
    refine wpAnyT_done (by kernel_rfl) ?_ _
    clear hs7 hd7
    have S6 := Lib.hid HFF.out.1
    have N6 := Lib.hid HFF.out.2
    have HE6 := Lib.hid he6
    clear HFF he6 HNOC
    have hszn := N6.out.lt
    simp only [World.size_setCell] at hszn
    have H := Lib.hid (pass_lit (S := w6.heap.size) [[59]] S6.out.ps (by simp) (by simp) (by simp))
    simp only [List.map, List.length] at H
    go_wp2_with fail
    refine (H.out).mono ?_
    rintro e w7 (⟨l7, he7, rfl, hP7, hg7⟩ | ⟨ln, c, code, he7, rfl, hg7⟩)
    rotate_left
    · refine ⟨rfl, ?_⟩
      have hbad : (leaveP rec d) (t :: r) = .bad ln c code := by simp only [Bool.false_eq_true, if_false, if_true, reduceIte, Bool.not_false, Bool.not_true, Bool.false_or, Bool.true_or, Bool.or_false, Bool.or_true, Bool.and_true, Bool.and_false, Bool.false_and, Bool.true_and, List.nil_append, List.cons_append, List.append_nil, leaveP, hf1, PR.bind, hdT_cons, HE4.out, HE6.out, he7]
      rw [hbad]
      exact S6.out.pan ⟨rfl, hg7⟩
    have S7 := Lib.hid (S6.out.call hP7 hg7)
    have N7 := Lib.hid (N6.out.call hg7 (by omega))
    clear S6 N6
    have HE7 := Lib.hid he7
    clear H he7 hP7 hg7
    have S9 := S7.out
    have N9 := N7.out
    have hs1 := S9.lt
    have hs2 := N9.lt
    try simp only [World.size_setCell, World.size_alloc] at hs1 hs2
    have hr := S9.res
    have r0 := hr.c0; have r1' := hr.c1; have r2 := hr.c2; have r3 := hr.c3; have r4 := hr.c4; have r5 := hr.c5
    have g0 := hr.f 0 (by omega); have g1 := hr.f 1 (by omega); have g2 := hr.f 2 (by omega); have g3 := hr.f 3 (by omega); have g4 := hr.f 4 (by omega); have g5 := hr.f 5 (by omega)
    clear hr
    have hq := N9.nd
    have q0 := hq.c0; have q1 := hq.c1; have q2 := hq.c2; have q3 := hq.c3; have q4 := hq.c4; have q5 := hq.c5
    clear hq
    have HS9 := Lib.hid S9
    have HN9 := Lib.hid N9
    clear S9 N9 S7 N7
    unfold kReturn at q0
    go_wp2
    refine bodyPost_ret (v := nodeV (.mk kReturn [] 0 t.line t.col [t6]) (.slice qq6 nn6 cc6)) (by simp [results, Tryz.results121, go_sem, nodeV, Tree.kind, Tree.text, Tree.num, Tree.line, Tree.col, Tree.kids, kProgram, kGlobal, kFunc, kParam, kType, kNum, kBlock, kLocal, kIf, kElse, kWhile, kReturn, kAssert, kAssume, kAssign, kNondet, kResult, kCall, kName, kIndex, kBinary, kUnary, kCast, kTrue, kFalse, kVoid, *]) rfl ?_
    have hgood : (leaveP rec d) (t :: r) = .ok (.mk kReturn [] 0 t.line t.col [t6]) l7 := by simp only [Bool.false_eq_true, if_false, if_true, reduceIte, Bool.not_false, Bool.not_true, Bool.false_or, Bool.true_or, Bool.or_false, Bool.or_true, Bool.and_true, Bool.and_false, Bool.false_and, Bool.true_and, List.nil_append, List.cons_append, List.append_nil, leaveP, hf1, PR.bind, hdT_cons, HE4.out, HE6.out, HE7.out]
    rw [hgood]
    exact HS9.out.fin (HN9.out.bd.mono (by omega)) _ _ _ _ _ _
  case true =>
    have H := Lib.hid (at_any B t1 r1 d [59] _ S4.out.ps)
    rw [hf1] at H
    go_wp2_with fail
    refine (H.out).mono ?_
    rintro e w5 ⟨rfl, hb5⟩
    have S5 := Lib.hid (S4.out.below hb5)
    have N5 := Lib.hid (N4.out.below hb5)
    clear S4 N4
    clear H hb5
    have H := Lib.hid (pass_lit (S := w5.heap.size) [[59]] S5.out.ps (by simp) (by simp) (by simp))
    simp only [List.map, List.length] at H
    go_wp2_with fail
    refine (H.out).mono ?_
    rintro e w6 (⟨l6, he6, rfl, hP6, hg6⟩ | ⟨ln, c, code, he6, rfl, hg6⟩)
    rotate_left
    · refine ⟨rfl, ?_⟩
      have hbad : (leaveP rec d) (t :: r) = .bad ln c code := by simp only [Bool.false_eq_true, if_false, if_true, reduceIte, Bool.not_false, Bool.not_true, Bool.false_or, Bool.true_or, Bool.or_false, Bool.or_true, Bool.and_true, Bool.and_false, Bool.false_and, Bool.true_and, List.nil_append, List.cons_append, List.append_nil, leaveP, hf1, PR.bind, hdT_cons, HE4.out, he6]
      rw [hbad]
      exact S5.out.pan ⟨rfl, hg6⟩
    have S6 := Lib.hid (S5.out.call hP6 hg6)
    have N6 := Lib.hid (N5.out.call hg6 (by omega))
    clear S5 N5
    have HE6 := Lib.hid he6
    clear H he6 hP6 hg6
    have S9 := S6.out
    have N9 := N6.out
    have hs1 := S9.lt
    have hs2 := N9.lt
    try simp only [World.size_setCell, World.size_alloc] at hs1 hs2
    have hr := S9.res
    have r0 := hr.c0; have r1' := hr.c1; have r2 := hr.c2; have r3 := hr.c3; have r4 := hr.c4; have r5 := hr.c5
    have g0 := hr.f 0 (by omega); have g1 := hr.f 1 (by omega); have g2 := hr.f 2 (by omega); have g3 := hr.f 3 (by omega); have g4 := hr.f 4 (by omega); have g5 := hr.f 5 (by omega)
    clear hr
    have hq := N9.nd
    have q0 := hq.c0; have q1 := hq.c1; have q2 := hq.c2; have q3 := hq.c3; have q4 := hq.c4; have q5 := hq.c5
    clear hq
    have HS9 := Lib.hid S9
    have HN9 := Lib.hid N9
    clear S9 N9 S6 N6
    unfold kReturn at q0
    go_wp2
    refine bodyPost_ret (v := nodeV (.mk kReturn [] 0 t.line t.col []) (.slice none 0 0)) (by simp [results, Tryz.results121, go_sem, nodeV, Tree.kind, Tree.text, Tree.num, Tree.line, Tree.col, Tree.kids, kProgram, kGlobal, kFunc, kParam, kType, kNum, kBlock, kLocal, kIf, kElse, kWhile, kReturn, kAssert, kAssume, kAssign, kNondet, kResult, kCall, kName, kIndex, kBinary, kUnary, kCast, kTrue, kFalse, kVoid, *]) rfl ?_
    have hgood : (leaveP rec d) (t :: r) = .ok (.mk kReturn [] 0 t.line t.col []) l6 := by simp only [Bool.false_eq_true, if_false, if_true, reduceIte, Bool.not_false, Bool.not_true, Bool.false_or, Bool.true_or, Bool.or_false, Bool.or_true, Bool.and_true, Bool.and_false, Bool.false_and, Bool.true_and, List.nil_append, List.cons_append, List.append_nil, leaveP, hf1, PR.bind, hdT_cons, HE4.out, HE6.out]
    rw [hgood]
    exact HS9.out.fin (HN9.out.bd.mono (by omega)) _ _ _ _ _ _
set_option maxHeartbeats 2000000 in
set_option maxRecDepth 100000 in
theorem claim_does (rec : NT → Int → List Tok → PR Tree) (d : Int) (hex : Does 135 (fun p => #[p]) d (exprP rec d)) : ∀ (B : Nat) (l : List Tok) (w : World), PsAt B l d w → (hdT l).text ≠ [] → (claimP rec d) l ≠ .out → Calls Tryz.prog 122 ((fun p => #[p]) (.pointer (some ⟨B, 0, none⟩))) w (PPost B d w ((claimP rec d) l)) := by
  intro B l w h hcond hno
  obtain ⟨t, r, rfl⟩ := h.ends.ne
  have S0 := St.start h
  have hBw := S0.hB
  have HNO := Lib.hid hno
  have S0 := Lib.hid S0
  have hmf := makeFunc_run
  have hft := field_text
  have hfk := field_kind
  have HEX := Lib.hid hex
  have hte : t.text ≠ [] := hcond
  clear hex hcond
  clear h hno
  unfold zero6 at *
  go_enter Tryz.func122, Tryz.ntmps122
  have H := Lib.hid (take_yes B t r d _ S0.out.ps hte)
  go_wp2_with fail
  refine (H.out).mono ?_
  rintro e w1 ⟨rfl, hP1, hg1⟩
  have S1 := Lib.hid (S0.out.call hP1 hg1)
  clear S0
  clear H hP1 hg1
  unfold tokW tokV at *
  have hwT : w.heap.size < w1.heap.size := S1.out.lt
  have L2 := Lib.hid (LTok.newO t w1)
  have S2 := Lib.hid (S1.out.alloc (tokO t))
  clear S1
  unfold tokO at *
  have l1 := L2.out.c1
  have l0 := L2.out.c0
  have l2' := L2.out.c2
  have l3' := L2.out.c3
  have l4' := L2.out.c4
  have H := Lib.hid (node_any t ⟨t.text.toArray⟩ ⟨#[]⟩)
  unfold tokW tokV at *
  go_wp2_with fail
  refine (H.out _).mono ?_
  rintro e w3 ⟨rfl, hb3⟩
  have S3 := Lib.hid (S2.out.below hb3)
  have L3 := Lib.hid (L2.out.below hb3)
  clear S2 L2
  clear H hb3
  have hwN : w.heap.size < w3.heap.size := S3.out.lt
  have N4 := Lib.hid (Nd.new t.text [] 0 t.line t.col w3)
  have S4 := Lib.hid (S3.out.alloc (nodO t.text [] 0 t.line t.col (.slice none 0 0)))
  have L4 := Lib.hid (L3.out.below ((Below.refl _ _).alloc (Nat.le_refl _) (nodO t.text [] 0 t.line t.col (.slice none 0 0))))
  clear S3 L3
  unfold nodO at *
  have H := Lib.hid (pass_lit (S := w3.heap.size + 1) [[40]] S4.out.ps (by simp) (by simp) (by simp))
  simp only [List.map, List.length] at H
  go_wp2_with fail
  refine (H.out).mono ?_
  rintro e w5 (⟨l5, he5, rfl, hP5, hg5⟩ | ⟨ln, c, code, he5, rfl, hg5⟩)
  rotate_left
  · refine ⟨rfl, ?_⟩
    have hbad : (claimP rec d) (t :: r) = .bad ln c code := by simp only [Bool.false_eq_true, if_false, if_true, reduceIte, Bool.not_false, Bool.not_true, Bool.false_or, Bool.true_or, Bool.or_false, Bool.or_true, Bool.and_true, Bool.and_false, Bool.false_and, Bool.true_and, List.nil_append, List.cons_append, List.append_nil, claimP, takeP, PR.bind, hdT_cons, he5]
    rw [hbad]
    exact S4.out.pan ⟨rfl, hg5⟩
  have S5 := Lib.hid (S4.out.call hP5 hg5)
  have N5 := Lib.hid (N4.out.call hg5 (by omega))
  have L5 := Lib.hid (L4.out.grown hg5 (by simp; omega))
  clear S4 N4 L4
  have HE5 := Lib.hid he5
  clear H he5 hP5 hg5
  have hnoc : exprP rec d l5 ≠ .out := fun e => HNO.out (by simp only [Bool.false_eq_true, if_false, if_true, reduceIte, Bool.not_false, Bool.not_true, Bool.false_or, Bool.true_or, Bool.or_false, Bool.or_true, Bool.and_true, Bool.and_false, Bool.false_and, Bool.true_and, List.nil_append, List.cons_append, List.append_nil, claimP, takeP, PR.bind, hdT_cons, HE5.out, e])
  have HNOC := Lib.hid hnoc
  clear hnoc
  have S6d := Lib.hid S5.out.drew
  have N6d := Lib.hid N5.out.drew
  clear S5 N5
  clear L5
  go_wp2_with fail
  have hcl := N6d.out.nd.c5
  refine wp_region_T (S := fun w' => w'.cell? ⟨w3.heap.size, 5, none⟩ = some (.slice none 0 0)) (tail := fun i => decide (5 ≤ i)) (by kernel_rfl) ?_
  change wpAnyT _ _ _ _ _ _ _ _ _ (World.drew _)
  refine wpAnyT_take (i := 0) (d := 14) (v := .pointer (some ⟨w3.heap.size, 5, none⟩)) rfl rfl (by kernel_rfl) (fun _ _ _ h => h) (by rfl) ?y0 hcl ?_
  case y0 => intro w' hw'; go_simp
  try simp only [Act.put, List.setIfInBounds_toArray, List.set_cons_zero, List.set_cons_succ]
  refine wpAnyT_take (i := 1) (d := 15) (v := .slice none 0 0) rfl rfl (by kernel_rfl) (fun _ _ _ h => h) (by rfl) ?y1 hcl ?_
  case y1 => intro w' hw'; go_simp
  try simp only [Act.put, List.setIfInBounds_toArray, List.set_cons_zero, List.set_cons_succ]
  refine wpAnyT_take (i := 2) (d := 16) (v := .pointer (some ⟨B, 0, none⟩)) rfl rfl (by kernel_rfl) (fun _ _ _ h => h) (by rfl) ?y2 hcl ?_
  case y2 => intro w' hw'; go_simp
  try simp only [Act.put, List.setIfInBounds_toArray, List.set_cons_zero, List.set_cons_succ]
  refine wpAnyT_one (i := 3) rfl (by kernel_rfl) (by rfl) (fun K hK => ?_)
  go_simp
  have HC := HEX.out B l5 _ S6d.out.ps HNOC.out
  refine HC.mono ?_
  intro e w6a hq
  rcases hq.cases HNOC.out with ⟨t6, l6, q6, n6, c6, he6, rfl, hb6, hP6, hg6⟩ | ⟨ln, c, code, he6, rfl, hg6⟩
  rotate_left
  · refine ⟨rfl, ?_⟩
    have hbad : (claimP rec d) (t :: r) = .bad ln c code := by simp only [Bool.false_eq_true, if_false, if_true, reduceIte, Bool.not_false, Bool.not_true, Bool.false_or, Bool.true_or, Bool.or_false, Bool.or_true, Bool.and_true, Bool.and_false, Bool.false_and, Bool.true_and, List.nil_append, List.cons_append, List.append_nil, claimP, takeP, PR.bind, hdT_cons, HE5.out, he6]
    rw [hbad]
    exact S6d.out.pan ⟨rfl, hg6⟩
  have S6 := Lib.hid (S6d.out.call hP6 hg6)
  have N6 := Lib.hid (N6d.out.call hg6 (by omega))
  have HB6 := Lib.hid hb6
  have hbl := N6d.out.bd.lt
  have c6' := N6.out.nd.c5
  have f6' := N6.out.nd.f 5 (by omega)
  have hs6 := N6.out.lt
  have hsz5 := N6d.out.lt
  have hsz6 := hg6.size
  clear hP6 hg6 hb6 HC hq S6d N6d
  unfold nodeV
  refine hK.out _ _ (fun _ => c6') ?_
  clear hK K
  try simp only [Act.put, List.setIfInBounds_toArray, List.set_cons_zero, List.set_cons_succ]
  refine wpAnyT_one (i := 4) rfl (by kernel_rfl) (by rfl) (fun K hK => ?_)
  go_simp
  refine hK.out _ _ (fun _ => by go_simp) ?_
  clear hK K
  try simp only [Act.put, List.setIfInBounds_toArray, List.set_cons_zero, List.set_cons_succ]
  refine wpAnyT_one (i := 5) rfl (by kernel_rfl) (by rfl) (fun K hK => ?_)
  refine append_at (dd := 19) (t := t6) (u := .slice q6 n6 c6) _ _ rfl rfl N6.out.bd HB6.out (by omega) (fun g hg => (hbl g hg).2) hsz6 rfl rfl rfl (by simp) (fun v7 w6 hb7 hg7 => ?_)
  refine hK.out _ _ (fun h => absurd h (by decide)) ?_
  clear hK K
  obtain ⟨qq6, nn6, cc6, rfl⟩ := hb7.shape
  have hff := app_fin S6.out N6.out hwN hb7 hg7
  have hs7 : w6.frozen? ⟨w3.heap.size, 5, none⟩ = false := ((N6.out.nd.grown (World.grownBy_alloc w6a _ none) (by simp)).grown hg7 (fun e => by have := (hbl _ e.symm).1; omega)).f 5 (by omega)
  have hd7 := ((N6.out.nd.grown (World.grownBy_alloc w6a _ none) (by simp)).grown hg7 (fun e => by have := (hbl _ e.symm).1; omega)).c5
  have HFF := Lib.hid hff
  clear hff hb7 hg7 S6 N6 HB6 hbl hcl c6' f6' hsz5 hsz6
  try simp only [Act.put, List.setIfInBounds_toArray, List.set_cons_zero, List.set_cons_succ]
  refine wpAnyT_one (i := 6) rfl (by kernel_rfl) (by rfl) (fun K hK => ?_)
  go_simp
  refine hK.out _ _ (fun h => absurd h (by decide)) ?_
  clear hK K
  try simp only [Act.put, List.setIfInBounds_toArray, List.set_cons_zero, List.set_cons_succ]
  refine wpAnyT_one (i := 7) rfl (by kernel_rfl) (by rfl) (fun K hK => ?_)
  go_simp
  refine hK.out _ _ (fun h => absurd h (by decide)) ?_
  clear hK K
  try simp only [Act.put, List.setIfInBounds_toArray, List.set_cons_zero, List.set_cons_succ]
  refine wpAnyT_done (by kernel_rfl) ?_ _
  clear hs7 hd7
  have S6 := Lib.hid HFF.out.1
  have N6 := Lib.hid HFF.out.2
  have HE6 := Lib.hid he6
  clear HFF he6 HNOC
  have hszn := N6.out.lt
  simp only [World.size_setCell] at hszn
  have H := Lib.hid (pass_lit (S := w6.heap.size) [[41], [59]] S6.out.ps (by simp) (by simp) (by simp))
  simp only [List.map, List.length] at H
  go_wp2_with fail
  refine (H.out).mono ?_
  rintro e w7 (⟨l7, he7, rfl, hP7, hg7⟩ | ⟨ln, c, code, he7, rfl, hg7⟩)
  rotate_left
  · refine ⟨rfl, ?_⟩
    have hbad : (claimP rec d) (t :: r) = .bad ln c code := by simp only [Bool.false_eq_true, if_false, if_true, reduceIte, Bool.not_false, Bool.not_true, Bool.false_or, Bool.true_or, Bool.or_false, Bool.or_true, Bool.and_true, Bool.and_false, Bool.false_and, Bool.true_and, List.nil_append, List.cons_append, List.append_nil, claimP, takeP, PR.bind, hdT_cons, HE5.out, HE6.out, he7]
    rw [hbad]
    exact S6.out.pan ⟨rfl, hg7⟩
  have S7 := Lib.hid (S6.out.call hP7 hg7)
  have N7 := Lib.hid (N6.out.call hg7 (by omega))
  clear S6 N6
  have HE7 := Lib.hid he7
  clear H he7 hP7 hg7
  have S9 := S7.out
  have N9 := N7.out
  have hs1 := S9.lt
  have hs2 := N9.lt
  try simp only [World.size_setCell, World.size_alloc] at hs1 hs2
  have hr := S9.res
  have r0 := hr.c0; have r1' := hr.c1; have r2 := hr.c2; have r3 := hr.c3; have r4 := hr.c4; have r5 := hr.c5
  have g0 := hr.f 0 (by omega); have g1 := hr.f 1 (by omega); have g2 := hr.f 2 (by omega); have g3 := hr.f 3 (by omega); have g4 := hr.f 4 (by omega); have g5 := hr.f 5 (by omega)
  clear hr
  have hq := N9.nd
  have q0 := hq.c0; have q1 := hq.c1; have q2 := hq.c2; have q3 := hq.c3; have q4 := hq.c4; have q5 := hq.c5
  clear hq
  have HS9 := Lib.hid S9
  have HN9 := Lib.hid N9
  clear S9 N9 S7 N7
  skip
  go_wp2
  refine bodyPost_ret (v := nodeV (.mk t.text [] 0 t.line t.col [t6]) (.slice qq6 nn6 cc6)) (by simp [results, Tryz.results122, go_sem, nodeV, Tree.kind, Tree.text, Tree.num, Tree.line, Tree.col, Tree.kids, kProgram, kGlobal, kFunc, kParam, kType, kNum, kBlock, kLocal, kIf, kElse, kWhile, kReturn, kAssert, kAssume, kAssign, kNondet, kResult, kCall, kName, kIndex, kBinary, kUnary, kCast, kTrue, kFalse, kVoid, *]) rfl ?_
  have hgood : (claimP rec d) (t :: r) = .ok (.mk t.text [] 0 t.line t.col [t6]) l7 := by simp only [Bool.false_eq_true, if_false, if_true, reduceIte, Bool.not_false, Bool.not_true, Bool.false_or, Bool.true_or, Bool.or_false, Bool.or_true, Bool.and_true, Bool.and_false, Bool.false_and, Bool.true_and, List.nil_append, List.cons_append, List.append_nil, claimP, takeP, PR.bind, hdT_cons, HE5.out, HE6.out, HE7.out]
  rw [hgood]
  exact HS9.out.fin (HN9.out.bd.mono (by omega)) _ _ _ _ _ _
end Go.Proofs.YtnalgnklgmoepaaGreatDoor
