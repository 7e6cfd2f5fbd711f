/- A look at a clause: its only literal that is left is made true. -/
import Derived.Test.YtpfoaaiedfidbaaGreatDoorFb
import Derived.Test.YtpfoaaiedfidbaaGreatDoorEa
namespace Go.Proofs.YtpfoaaiedfidbaaGreatDoor
open Go Go.RowKit Go.Maps

theorem enters61 : ∀ args w, (callFunc 61 args).run Tryz.prog w = .ok (.enter 61 args) w := enters_of Tryz.func61 (by kernel_rfl) rfl
theorem left_in (p q b n : Nat) (tr : List Int) (x : Int) (w : World) (hx : mayB x = true) (hp : w.cell? ⟨p, 0, none⟩ = some (.func (.func 60) #[] #[.pointer (some ⟨q, 0, none⟩)])) (hc : w.cell? ⟨q, 0, none⟩ = some (.map (some b))) (h : SetAt w b n tr) :
    Calls Tryz.prog 61 #[.int .i64 x, .pointer (some ⟨p, 0, none⟩)] w fun e w' => e = .returned (.bool (!hasB tr (-x))) ∧ Below w.heap.size w w' := by
  have HC := Lib.hid (within_in q b n tr (-x) w (may_neg hx) hc h)
  have e60 := enters60
  obtain ⟨_, h1, h2⟩ := mayB_iff.1 hx
  clear h hc hx
  cases ht : hasB tr (-x) with
  | true =>
    rw [ht] at HC
    go_enter Tryz.func61, Tryz.ntmps61
    go_wp2_with (go_at_fn 60; refine (HC.out).mono ?_; rintro e w1 ⟨rfl, hb⟩; have HB := Lib.hid hb; clear hb)
    go_ret
    exact ⟨rfl, HB.out⟩
  | false =>
    rw [ht] at HC
    go_enter Tryz.func61, Tryz.ntmps61
    go_wp2_with (go_at_fn 60; refine (HC.out).mono ?_; rintro e w1 ⟨rfl, hb⟩; have HB := Lib.hid hb; clear hb)
    go_ret
    exact ⟨rfl, HB.out⟩
/-- What a look leaves of what is true. -/
def Looked (c : List Int) (op : Int) (tr tr' : List Int) : Prop :=
  (tr' = tr ∧ (1 < op ∨ ∃ m ∈ c, m ∈ tr)) ∨ (op ≤ 1 ∧ (∀ m ∈ c, m ∉ tr) ∧ ∃ n ∈ c, -n ∉ tr ∧ tr' = tr ++ [n])
def LookNo (c : List Int) (op : Int) (tr : List Int) : Prop := op ≤ 1 ∧ (∀ m ∈ c, m ∉ tr) ∧ ∀ m ∈ c, -m ∈ tr
def LookPost (B S bA bT : Nat) (g : Gh) (cs : List (List Int)) (ops tr : List Int) (atf : Int → List Int) (c : List Int) (op : Int) (w : World) (e : Ending) (w' : World) : Prop :=
  (e = .returned (.bool true) ∧ ∃ g' tr', Looked c op tr tr' ∧ SpAt B S bA bT g' cs ops tr' tr' atf w' ∧ g'.nT ≤ tr'.length ∧ g'.n = g.n ∧ (∀ k, k < w.heap.size → g'.own k = g.own k) ∧ Keep4 g.own w w' ∧ Below B w w') ∨
  (e = .returned (.bool false) ∧ LookNo c op tr ∧ Below B w w')
set_option maxHeartbeats 4000000 in
set_option maxRecDepth 100000 in
theorem look_any {B S bA bT : Nat} {g : Gh} {cs : List (List Int)} {ops tr : List Int} {atf : Int → List Int} (i : Nat) (w : World) (h : SpAt B S bA bT g cs ops tr tr atf w) (hi : i < cs.length) (hlo : ops.length = cs.length) (hm : allMay cs = true) (hl : tr.length ≤ 100000) (hn : g.nT ≤ tr.length) (hcl : cs.length ≤ 1000) (hcr : ∀ c ∈ cs, c.length ≤ 1000) :
    Calls Tryz.prog 47 #[.pointer (some ⟨S, 0, none⟩), .int .i64 i] w (LookPost B S bA bT g cs ops tr atf (cs.getD i []) (ops.getD i 0) w) := by
  have H := Lib.hid h
  obtain ⟨Ao, co, ev⟩ := h.ro.form
  have ho' : Own w B (.slice Ao ops.length co) ops := by rw [← ev]; exact h.ro
  have c1 : w.cell? ⟨S, 1, none⟩ = some (.slice Ao ops.length co) := by rw [← ev]; exact h.c1
  obtain ⟨A', c', e', _, hat⟩ := ho'.nums
  cases e'
  obtain ⟨bo, oo, rfl, hbo, hcello⟩ := hat (by omega)
  obtain ⟨op, hop⟩ : ∃ op, ops.getD i 0 = op := ⟨_, rfl⟩
  have co1 := hcello i (by omega)
  rw [hop] at co1 ⊢
  obtain ⟨c, hc⟩ : ∃ c, cs.getD i [] = c := ⟨_, rfl⟩
  rw [hc]
  have HC := Lib.hid hc
  have hiO : (i : Int) < (ops.length : Int) := by omega
  clear hc hop hcello hat ev ho' h
  by_cases h1 : 1 < op
  · go_enter Tryz.func47, Tryz.ntmps47
    go_wp2
    go_ret
    exact .inl ⟨rfl, g, tr, .inl ⟨rfl, .inl h1⟩, H.out, hn, rfl, fun _ _ => rfl, fun _ _ _ => rfl, Below.refl _ _⟩
  · obtain ⟨Ac, cc, evc⟩ := Mesh.form H.out.rc
    rw [H.out.ul] at evc
    have c0 : w.cell? ⟨S, 0, none⟩ = some (.slice Ac cs.length cc) := by rw [← evc]; exact H.out.c0
    have hgrid := Mesh.grid (w := w) (base := B) (v := .slice Ac cs.length cc) (l := cs) ⟨g.us, H.out.ul, by rw [← evc]; exact H.out.rc, H.out.rr⟩
    obtain ⟨A', c', e', _, hat⟩ := hgrid
    cases e'
    obtain ⟨bc, oc, rfl, hlc, hcellc⟩ := hat (by omega)
    obtain ⟨ui, cu0, hnu⟩ := hcellc i hi
    rw [HC.out] at hnu
    have HNU := Lib.hid hnu
    obtain ⟨Au, cu, rfl, _⟩ := hnu
    have c3 := H.out.c3
    have hlS := H.out.ltS
    have hiC : (i : Int) < (cs.length : Int) := by omega
    have hrm : rowMay c = true := allMay_iff.1 hm c (HC.out ▸ getD_memL hi)
    have HRM := Lib.hid hrm
    have hcl1 : c.length ≤ 1000 := by rw [← HC.out]; exact hcr _ (getD_memL hi)
    have e60 := enters60
    have e61 := enters61
    clear hcellc hat evc hrm
    go_enter Tryz.func47, Tryz.ntmps47
    go_wp2
    refine wp_cut (fun a (N : Nat × Nat) => ((((((((((((((a.put (some 16) (.pointer (some ⟨S, 0, none⟩))).put (some 17) (.pointer (some ⟨S, 0, none⟩))).put (some 18) (.pointer (some ⟨S, 0, none⟩))).put (some 19) (.slice (some ⟨bc, oc, none⟩) cs.length cc)).put (some 20) (.int .i64 i)).put (some 21) (.pointer (some ⟨bc, oc + i, none⟩))).put (some 22) (.slice Au c.length cu)).put (some 23) (.pointer (some ⟨S, 0, none⟩))).put (some 24) (.pointer (some ⟨S, 0, none⟩))).put (some 25) (.pointer (some ⟨S, 3, none⟩))).put (some 26) (.map (some bT))).put (some 27) (.func (.func 60) #[] #[.pointer (some ⟨N.1, 0, none⟩)])).put (some 6) (.pointer (some ⟨N.2, 0, none⟩))).put (some 5) (.slice Au c.length cu))) (fun N w' => Below w.heap.size w w' ∧ N.1 < w'.heap.size ∧ N.2 < w'.heap.size ∧ w.heap.size ≤ N.1 ∧ w.heap.size ≤ N.2 ∧ w'.cell? ⟨N.1, 0, none⟩ = some (.map (some bT)) ∧ w'.cell? ⟨N.2, 0, none⟩ = some (.func (.func 60) #[] #[.pointer (some ⟨N.1, 0, none⟩)])) ?_ ?_
    · refine wp_region_T (S := fun w' => Below w.heap.size w w') (tail := fun _ => false) (by kernel_rfl) ?_
      change wpAnyT _ _ _ _ _ _ _ _ _ (World.drew _)
      refine tk 0 16 (.pointer (some ⟨S, 0, none⟩)) (Below.refl w.heap.size w).drew ?y0 ?_
      case y0 =>
        intro w' hw'
        go_simp
      try simp only [Act.put, List.setIfInBounds_toArray, List.set_cons_zero, List.set_cons_succ]
      refine tk 1 17 (.pointer (some ⟨S, 0, none⟩)) (Below.refl w.heap.size w).drew ?y1 ?_
      case y1 =>
        intro w' hw'
        go_simp
      try simp only [Act.put, List.setIfInBounds_toArray, List.set_cons_zero, List.set_cons_succ]
      refine tk 2 18 (.pointer (some ⟨S, 0, none⟩)) (Below.refl w.heap.size w).drew ?y2 ?_
      case y2 =>
        intro w' hw'
        go_simp
      try simp only [Act.put, List.setIfInBounds_toArray, List.set_cons_zero, List.set_cons_succ]
      refine tk 3 19 (.slice (some ⟨bc, oc, none⟩) cs.length cc) (Below.refl w.heap.size w).drew ?y3 ?_
      case y3 =>
        intro w' hw'
        have y0 := (hw'.cell (p := ⟨S, 0, none⟩) hlS).trans c0
        go_simp
      try simp only [Act.put, List.setIfInBounds_toArray, List.set_cons_zero, List.set_cons_succ]
      refine tk 4 20 (.int .i64 i) (Below.refl w.heap.size w).drew ?y4 ?_
      case y4 =>
        intro w' hw'
        go_simp
      try simp only [Act.put, List.setIfInBounds_toArray, List.set_cons_zero, List.set_cons_succ]
      refine tk 5 21 (.pointer (some ⟨bc, oc + i, none⟩)) (Below.refl w.heap.size w).drew ?y5 ?_
      case y5 =>
        intro w' hw'
        go_simp
      try simp only [Act.put, List.setIfInBounds_toArray, List.set_cons_zero, List.set_cons_succ]
      refine tk 6 22 (.slice Au c.length cu) (Below.refl w.heap.size w).drew ?y6 ?_
      case y6 =>
        intro w' hw'
        have y0 := (hw'.cell (p := ⟨bc, oc + i, none⟩) hlc).trans cu0
        go_simp
      try simp only [Act.put, List.setIfInBounds_toArray, List.set_cons_zero, List.set_cons_succ]
      refine tk 7 23 (.pointer (some ⟨S, 0, none⟩)) (Below.refl w.heap.size w).drew ?y7 ?_
      case y7 =>
        intro w' hw'
        go_simp
      try simp only [Act.put, List.setIfInBounds_toArray, List.set_cons_zero, List.set_cons_succ]
      refine tk 8 24 (.pointer (some ⟨S, 0, none⟩)) (Below.refl w.heap.size w).drew ?y8 ?_
      case y8 =>
        intro w' hw'
        go_simp
      try simp only [Act.put, List.setIfInBounds_toArray, List.set_cons_zero, List.set_cons_succ]
      refine tk 9 25 (.pointer (some ⟨S, 3, none⟩)) (Below.refl w.heap.size w).drew ?y9 ?_
      case y9 =>
        intro w' hw'
        go_simp
      try simp only [Act.put, List.setIfInBounds_toArray, List.set_cons_zero, List.set_cons_succ]
      refine tk 10 26 (.map (some bT)) (Below.refl w.heap.size w).drew ?y10 ?_
      case y10 =>
        intro w' hw'
        have y0 := (hw'.cell (p := ⟨S, 3, none⟩) hlS).trans c3
        go_simp
      try simp only [Act.put, List.setIfInBounds_toArray, List.set_cons_zero, List.set_cons_succ]
      refine tw 11 12 (fun K hK => ?_) (fun K hK => ?_)
      · go_simp
        refine (within_any bT _).mono ?_
        rintro e w1 ⟨rfl, hw1⟩
        have hb1 : Below w.heap.size w w1 := by rw [hw1]; exact (Below.refl _ _).drew.alloc (Nat.le_refl _) _
        have hq1 : w1.cell? ⟨w.heap.size, 0, none⟩ = some (.map (some bT)) := by rw [hw1]; exact cell_new w.drew _ _
        have hs1 : w1.heap.size = w.heap.size + 1 := by rw [hw1]; simp
        have HB1 := Lib.hid hb1
        have HS1 := Lib.hid hs1
        have hs1' : w.heap.size < w1.heap.size := by omega
        refine hK.out _ _ (fun _ => hb1) ?_
        clear hK K hw1 hb1 hs1
        try simp only [Act.put, List.setIfInBounds_toArray, List.set_cons_zero, List.set_cons_succ]
        refine on 12 (fun K hK => ?_)
        go_simp
        refine hK.out _ _ (fun _ => HB1.out.alloc (Nat.le_of_lt hs1') _) ?_
        clear hK K
        try simp only [Act.put, List.setIfInBounds_toArray, List.set_cons_zero, List.set_cons_succ]
        refine tk 13 5 (.slice Au c.length cu) (HB1.out.alloc (Nat.le_of_lt hs1') _) ?y13 ?_
        case y13 =>
          intro w' hw'
          go_simp
        try simp only [Act.put, List.setIfInBounds_toArray, List.set_cons_zero, List.set_cons_succ]
        refine on 14 (fun K hK => ?_)
        go_simp
        refine hK.out _ _ (fun _ => HB1.out.alloc (Nat.le_of_lt hs1') _) ?_
        clear hK K
        try simp only [Act.put, List.setIfInBounds_toArray, List.set_cons_zero, List.set_cons_succ]
        refine dn ?_
        refine ⟨(w.heap.size, w1.heap.size), by simp only [List.setIfInBounds_toArray, List.set_cons_zero, List.set_cons_succ], HB1.out.alloc (Nat.le_of_lt hs1') _, by simp; omega, by simp, Nat.le_refl _, Nat.le_of_lt hs1', (World.cell?_alloc_lt _ _ _ hs1').trans hq1, cell_new _ _ _⟩
      · go_simp
        refine hK.out _ _ (fun _ => (Below.refl w.heap.size w).drew.alloc (Nat.le_refl _) _) ?_
        clear hK K
        try simp only [Act.put, List.setIfInBounds_toArray, List.set_cons_zero, List.set_cons_succ]
        refine on 11 (fun K hK => ?_)
        go_simp
        refine (within_any bT _).mono ?_
        rintro e w1 ⟨he1, hw1⟩
        have he2 : e = .returned (.func (.func 60) #[] #[.pointer (some ⟨w.heap.size + 1, 0, none⟩)]) := by rw [he1]; simp
        clear he1
        subst he2
        have hb1 : Below w.heap.size w w1 := by rw [hw1]; exact ((Below.refl _ _).drew.alloc (Nat.le_refl _) _).alloc (by simp) _
        have hq1 : w1.cell? ⟨w.heap.size + 1, 0, none⟩ = some (.map (some bT)) := by rw [hw1]; have := cell_new ((w.alloc (.cells #[.nilFunc] 40)).drew) (.map (some bT)) 49; simpa using this
        have hp1 : w1.heap[w.heap.size]? = some (.cells #[.nilFunc] 40 (0, 0)) := by rw [hw1]; exact (Below.heap_alloc _ _ _ (by simp)).trans (heap_alloc_new w.drew _)
        have hp2 := (five hp1 0).1
        have hp3 := (five hp1 0).2
        have hs1 : w1.heap.size = w.heap.size + 2 := by rw [hw1]; simp
        have HB1 := Lib.hid hb1
        have HS1 := Lib.hid hs1
        have HP1 := Lib.hid hp1
        have hs1' : w.heap.size < w1.heap.size := by omega
        refine hK.out _ _ (fun _ => hb1) ?_
        clear hK K hw1 hb1 hs1 hp1
        try simp only [Act.put, List.setIfInBounds_toArray, List.set_cons_zero, List.set_cons_succ]
        refine tk 13 5 (.slice Au c.length cu) HB1.out ?y13 ?_
        case y13 =>
          intro w' hw'
          go_simp
        try simp only [Act.put, List.setIfInBounds_toArray, List.set_cons_zero, List.set_cons_succ]
        refine on 14 (fun K hK => ?_)
        go_simp
        refine hK.out _ _ (fun _ => HB1.out.setCell (Nat.le_refl _) _) ?_
        clear hK K
        try simp only [Act.put, List.setIfInBounds_toArray, List.set_cons_zero, List.set_cons_succ]
        refine dn ?_
        refine ⟨(w.heap.size + 1, w.heap.size), by simp only [List.setIfInBounds_toArray, List.set_cons_zero, List.set_cons_succ], HB1.out.setCell (Nat.le_refl _) _, by have := HS1.out; simp [World.setCell]; omega, by have := HS1.out; simp [World.setCell]; omega, Nat.le_succ _, Nat.le_refl _, ?_, ?_⟩
        · rw [World.cell?_setCell_other _ _ _ _ (by simp)]; exact hq1
        · exact (five (heap_set _ HP1.out) 0).1
    · rintro ⟨q, p⟩ w2 ⟨hb2, hq, hp, hq0, hp0, cq, cp⟩
      simp only at hq hp hq0 hp0 cq cp
      have HB2 := Lib.hid hb2
      have HCQ := Lib.hid cq
      have hsz2 := hb2.size
      have HNU2 := Lib.hid (HNU.out.below hb2 (Nat.le_refl _))
      have HST := Lib.hid (H.out.st.below hb2 H.out.st.lt)
      have hltT := H.out.st.lt
      have HK := Lib.hid (contains_any 60 #[.pointer (some ⟨q, 0, none⟩)] (hasB tr) e60 (.slice Au c.length cu) c w2 w.heap.size HNU2.out hsz2 (by omega)
        (fun W x hW hx => within_in q bT g.nT tr x W (rowMay_iff.1 HRM.out x hx) ((hW.cell (p := ⟨q, 0, none⟩) hq).trans HCQ.out) (HST.out.below hW (by omega))))
      have HI := Lib.hid (fun (w3 : World) (hb3 : Below w2.heap.size w2 w3) => index_any 61 #[.pointer (some ⟨p, 0, none⟩)] (fun n => !hasB tr (-n)) e61 (.slice Au c.length cu) c w3 w.heap.size (HNU2.out.below hb3 hsz2) (by have := hb3.size; omega) (by omega)
        (fun W x hW hx => left_in p q bT g.nT tr x W (rowMay_iff.1 HRM.out x hx) ((hW.cell (p := ⟨p, 0, none⟩) (by have := hb3.size; show p < _; omega)).trans ((hb3.cell (p := ⟨p, 0, none⟩) hp).trans cp)) ((hW.cell (p := ⟨q, 0, none⟩) (by have := hb3.size; show q < _; omega)).trans ((hb3.cell (p := ⟨q, 0, none⟩) hq).trans HCQ.out)) ((HST.out.below hb3 (by omega)).below hW (by have := hb3.size; omega))))
      clear hb2 cq c0 c1 c3 co1 cu0
      try simp only [Act.put, List.setIfInBounds_toArray, List.set_cons_zero, List.set_cons_succ]
      have hfin : ∀ (w3 : World), Below w.heap.size w w3 → Below B w w3 ∧ Keep4 g.own w w3 := fun w3 h => ⟨h.mono (by have := H.out.hSB; omega), fun k hk _ => h.block k hk⟩
      cases ht : c.any (hasB tr) with
      | true =>
        have HT := Lib.hid ht
        rw [ht] at HK
        clear ht
        go_wp2_with (go_at_call 43; refine (HK.out).mono ?_; rintro e w3 ⟨rfl, hb3⟩; have HB3 := Lib.hid hb3; clear hb3)
        go_ret
        have hb := HB2.out.trans (HB3.out.mono hsz2)
        obtain ⟨m, hm1, hm2⟩ := List.any_eq_true.1 HT.out
        exact .inl ⟨rfl, g, tr, .inl ⟨rfl, .inr ⟨m, hm1, hasB_iff.1 hm2⟩⟩, H.out.below hb, hn, rfl, fun _ _ => rfl, (hfin _ hb).2, (hfin _ hb).1⟩
      | false =>
        have hnone : ∀ m ∈ c, m ∉ tr := fun m hm1 hm2 => by
          rw [List.any_eq_false] at ht
          exact ht m hm1 (hasB_iff.2 hm2)
        have HNO := Lib.hid hnone
        rw [ht] at HK
        clear ht hnone
        go_wp2_with fail
        refine (HK.out).mono ?_
        rintro e w3 ⟨rfl, hb3⟩
        have HB3 := Lib.hid (HB2.out.trans (hb3.mono hsz2))
        have HJ := Lib.hid (HI.out w3 hb3)
        clear hb3 HI
        go_wp2_with fail
        refine (HJ.out).mono ?_
        rintro e w4 ⟨r, rfl, hb4, hf⟩
        have HB4 := Lib.hid (HB3.out.trans (hb4.mono HB3.out.size))
        clear hb4
        rcases hf with ⟨rfl, hall⟩ | ⟨k, hk, rfl, hyes, _⟩
        · have HALL := Lib.hid hall
          clear hall
          go_wp2
          go_ret
          refine .inr ⟨rfl, ⟨by omega, HNO.out, fun m hm1 => ?_⟩, (hfin _ HB4.out).1⟩
          have := HALL.out m hm1
          simp only [Bool.not_eq_false'] at this
          exact hasB_iff.1 this
        · obtain ⟨A', c', e', _, hat⟩ := HNU.out.below HB4.out (Nat.le_refl _)
          cases e'
          obtain ⟨bu, ou, rfl, hlu, hcellu⟩ := hat (by omega)
          obtain ⟨x, hx⟩ : ∃ x, c.getD k 0 = x := ⟨_, rfl⟩
          have cu1 := hcellu k hk
          rw [hx] at cu1 hyes
          have HX := Lib.hid (show x ∈ c from hx ▸ getD_mem hk)
          have HY := Lib.hid hyes
          have HW4 := Lib.hid (tell_any x w4 (H.out.below HB4.out) (rowMay_iff.1 HRM.out x HX.out) hl (by omega))
          clear hcellu hat hx hyes
          go_wp2_with (go_at_call 27; refine (HW4.out).mono ?_; rintro e w5 ⟨rfl, g5, h5, hn5, hm5, ho5, hk5, hb5⟩; have HM5 := Lib.hid hm5; have H5 := Lib.hid h5; have HN5 := Lib.hid hn5; have HO5 := Lib.hid ho5; have HK5 := Lib.hid hk5; have HB5 := Lib.hid hb5; clear h5 hn5 hm5 ho5 hk5 hb5)
          go_ret
          have hsz4 := HB4.out.size
          refine .inl ⟨rfl, g5, tr ++ [x], .inr ⟨by omega, HNO.out, x, HX.out, ?_, rfl⟩, H5.out, by rw [HN5.out]; simp; omega, HM5.out, fun k hk => HO5.out k (by omega), fun k hk h4 => (HK5.out k (by omega) h4).trans (HB4.out.block k hk), (hfin _ HB4.out).1.trans HB5.out⟩
          have := HY.out
          simp only [Bool.not_eq_true'] at this
          exact hasB_no.1 this
end Go.Proofs.YtpfoaaiedfidbaaGreatDoor
