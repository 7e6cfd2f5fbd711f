/- The spreader keeps a clause. -/
import Derived.Test.YtpfoaaiedfidbaaGreatDoorFe
import Derived.Test.YtpfoaaiedfidbaaGreatDoorEa
namespace Go.Proofs.YtpfoaaiedfidbaaGreatDoor
open Go Go.RowKit Go.Maps

/-- What add leaves. -/
def AddPost (B S bA bT : Nat) (g : Gh) (cs : List (List Int)) (ops tr : List Int) (atf : Int → List Int) (c : List Int) (w : World) (e : Ending) (w' : World) : Prop :=
  e = .returned (.tuple #[]) ∧ Below B w w' ∧ ∃ g', g'.nT = g.nT ∧ g'.n ≤ g.n + c.length ∧
    ((bothB c = true ∧ SpAt B S bA bT g' cs ops tr tr atf w') ∨ (bothB c = false ∧ SpAt B S bA bT g' (cs ++ [upL c]) (ops ++ [((upL c).length : Int)]) tr tr (atK atf cs.length (upL c) (upL c).length) w'))
theorem grown_drew {w : World} : w.grownBy w.drew none := ⟨rfl, rfl, rfl, Nat.le_refl _, fun _ _ _ => rfl⟩
theorem intsB (N : Int) : ∀ u ∈ [Value.int .i64 N], u.oneCell' = true := fun u hu => by simp at hu; subst hu; rfl
/-- What the round knows. -/
structure ARel (B S bA bT : Nat) (g : Gh) (cs : List (List Int)) (ops tr : List Int) (atf : Int → List Int) (d : List Int) (u : Value) (base k : Nat) (gk : Gh) (w wr : World) : Prop where
  sp : SpAt B S bA bT gk cs ops tr tr (atK atf cs.length d k) wr
  hu : Own wr base u d
  ht : ∀ j, u.ownBlock = some j → gk.own j = 3
  hn : gk.n ≤ g.n + k
  hT : gk.nT = g.nT
  hb : Below B w wr
  hs : base ≤ wr.heap.size
set_option maxHeartbeats 8000000 in
set_option maxRecDepth 100000 in
theorem add_any {B S bA bT : Nat} {g : Gh} {cs : List (List Int)} {ops tr : List Int} {atf : Int → List Int} (v : Value) (c : List Int) (w : World) (D : Nat) (h : SpAt B S bA bT g cs ops tr tr atf w) (hv : Nums w D v c) (hm : rowMay c = true) (hcl : c.length ≤ 1000) (hcs : cs.length ≤ 1000) (hol : ops.length ≤ 1000) (hn : g.n ≤ 1000000) :
    Calls Tryz.prog 26 #[.pointer (some ⟨S, 0, none⟩), v] w (AddPost B S bA bT g cs ops tr atf c w) := by
  obtain ⟨i0, hi, hz0, hz1, hz2⟩ := info_parts info3
  obtain ⟨j0, ki, kz0, kz1, kz2⟩ := info_parts info23
  have H := Lib.hid h
  have HC := Lib.hid (clean_any v c w D hv (by omega) hm)
  have HM := Lib.hid hm
  have hBw : B ≤ w.heap.size := by have := h.ltS; have := h.hSB; omega
  have HUL := Lib.hid (upL_len c)
  obtain ⟨Av, cv, rfl, _⟩ := hv
  clear h hm
  go_enter Tryz.func26, Tryz.ntmps26
  go_wp2_with fail
  refine (HC.out).mono ?_
  rintro e w1 ⟨hb1, (⟨hno, v1, rfl, ho1⟩ | ⟨hyes, rfl⟩)⟩
  rotate_left
  · have HB1 := Lib.hid hb1
    have HY := Lib.hid hyes
    clear hb1 hyes
    go_wp2
    first
      | (go_end0; exact ⟨rfl, HB1.out.mono hBw, g, rfl, by omega, .inl ⟨HY.out, H.out.below HB1.out⟩⟩)
      | (refine bodyPost_ret (by simp [results, Tryz.results26, go_sem]) rfl ?_; exact ⟨rfl, HB1.out.mono hBw, g, rfl, by omega, .inl ⟨HY.out, H.out.below HB1.out⟩⟩)
  · have HNO := Lib.hid hno
    obtain ⟨d, hd⟩ : ∃ d, upL c = d := ⟨_, rfl⟩
    rw [hd] at ho1 HUL
    have HD := Lib.hid hd
    have hdl : d.length ≤ 1000 := by have := HUL.out; omega
    have HDM := Lib.hid (show rowMay d = true by rw [← hd]; exact rowMay_upL HM.out)
    have HDN := Lib.hid (show d.Nodup by rw [← hd]; exact nodup_of_rising (upL_rising c))
    obtain ⟨A1, c1, e1⟩ := ho1.form
    subst e1
    have R0 := Lib.hid (show ARel B S bA bT g cs ops tr atf d (.slice A1 d.length c1) w.heap.size 0 { g with own := reown g.own w.heap.size 3 } w w1 from
      ⟨by rw [atK_zero]; exact (H.out.retag 3).below hb1, ho1, fun j hj => reown_new (ho1.lt j hj).1, Nat.le_refl _, rfl, hb1.mono hBw, hb1.size⟩)
    clear hno hb1 ho1 hd HC
    go_wp2_with fail
    go_loopw [17] (fun i wr => ∃ (k : Nat) (gk : Gh), k ≤ d.length ∧ i = .int .i64 k ∧ Hid (ARel B S bA bT g cs ops tr atf d (.slice A1 d.length c1) w.heap.size k gk w wr)) (fun i _ => d.length - (intOf i).toNat)
    case atStart => exact ⟨0, _, Nat.zero_le _, rfl, R0⟩
    case round =>
      obtain ⟨k, gk, hk, rfl, hR⟩ := hrel
      obtain ⟨Ac, cc, evc⟩ := Mesh.form hR.out.sp.rc
      rw [hR.out.sp.ul] at evc
      have c0 : wr.cell? ⟨S, 0, none⟩ = some (.slice Ac cs.length cc) := by rw [← evc]; exact hR.out.sp.c0
      have hlS := hR.out.sp.ltS
      by_cases hlt : k < d.length
      · obtain ⟨A', c', e', _, hat⟩ := hR.out.hu.nums
        cases e'
        obtain ⟨b1, o1, rfl, hl1, hcell⟩ := hat (by omega)
        obtain ⟨x, hx⟩ : ∃ x, d.getD k 0 = x := ⟨_, rfl⟩
        have cx := hcell k hlt
        rw [hx] at cx
        have HX := Lib.hid hx
        have HXM := Lib.hid (rowMay_iff.1 HDM.out x (hx ▸ getD_mem hlt))
        have c2 := hR.out.sp.c2
        have HNM := Lib.hid (show gk.n < maxLen by have := hR.out.hn; unfold maxLen; omega)
        have HWF := Lib.hid (show (Lit.int .i64 (cs.length : Int)).wf = true from WalkArith.wf_i64 (by omega))
        clear hat hcell hx evc
        go_wp2_with fail
        refine wp_region_T (S := fun w' => w'.heap[S]? = wr.heap[S]?) (tail := fun _ => false) (by kernel_rfl) ?_
        change wpAnyT _ _ _ _ _ _ _ _ _ (World.drew wr)
        have SD := Lib.hid (hR.out.sp.keep (w' := World.drew wr) grown_drew)
        have BD := Lib.hid (show (World.drew wr).heap[S]? = wr.heap[S]? from rfl)
        have SZ := Lib.hid (show (World.drew wr).heap.size = wr.heap.size from rfl)
        have UD := Lib.hid (show Own (World.drew wr) w.heap.size (.slice (some ⟨b1, o1, none⟩) d.length c1) d from hR.out.hu)
        have BDB := Lib.hid (show Below B w (World.drew wr) from hR.out.hb.drew)
        generalize World.drew wr = wd at *
        refine tk 0 21 (.pointer (some ⟨S, 0, none⟩)) BD.out ?y0 ?_
        case y0 =>
          intro w' hw'
          go_simp
        try simp only [Act.put, List.setIfInBounds_toArray, List.set_cons_zero, List.set_cons_succ]
        refine tk 1 22 (.pointer (some ⟨S, 0, none⟩)) BD.out ?y1 ?_
        case y1 =>
          intro w' hw'
          go_simp
        try simp only [Act.put, List.setIfInBounds_toArray, List.set_cons_zero, List.set_cons_succ]
        refine tk 2 23 (.pointer (some ⟨S, 2, none⟩)) BD.out ?y2 ?_
        case y2 =>
          intro w' hw'
          go_simp
        try simp only [Act.put, List.setIfInBounds_toArray, List.set_cons_zero, List.set_cons_succ]
        refine tk 3 24 (.map (some bA)) BD.out ?y3 ?_
        case y3 =>
          intro w' hw'
          have y0 := (World.cell?_of_block (a := ⟨S, 2, none⟩) hw').trans c2
          go_simp
        try simp only [Act.put, List.setIfInBounds_toArray, List.set_cons_zero, List.set_cons_succ]
        refine tk 4 25 (.int .i64 x) BD.out ?y4 ?_
        case y4 =>
          intro w' hw'
          go_simp
        try simp only [Act.put, List.setIfInBounds_toArray, List.set_cons_zero, List.set_cons_succ]
        refine tk 5 26 (.pointer (some ⟨S, 0, none⟩)) BD.out ?y5 ?_
        case y5 =>
          intro w' hw'
          go_simp
        try simp only [Act.put, List.setIfInBounds_toArray, List.set_cons_zero, List.set_cons_succ]
        refine tk 6 27 (.pointer (some ⟨S, 0, none⟩)) BD.out ?y6 ?_
        case y6 =>
          intro w' hw'
          go_simp
        try simp only [Act.put, List.setIfInBounds_toArray, List.set_cons_zero, List.set_cons_succ]
        refine tk 7 28 (.pointer (some ⟨S, 2, none⟩)) BD.out ?y7 ?_
        case y7 =>
          intro w' hw'
          go_simp
        try simp only [Act.put, List.setIfInBounds_toArray, List.set_cons_zero, List.set_cons_succ]
        refine tk 8 29 (.map (some bA)) BD.out ?y8 ?_
        case y8 =>
          intro w' hw'
          have y0 := (World.cell?_of_block (a := ⟨S, 2, none⟩) hw').trans c2
          go_simp
        try simp only [Act.put, List.setIfInBounds_toArray, List.set_cons_zero, List.set_cons_succ]
        refine tk 9 30 (.int .i64 x) BD.out ?y9 ?_
        case y9 =>
          intro w' hw'
          go_simp
        try simp only [Act.put, List.setIfInBounds_toArray, List.set_cons_zero, List.set_cons_succ]
        refine tk 11 32 (.pointer (some ⟨S, 0, none⟩)) BD.out ?y11 ?_
        case y11 =>
          intro w' hw'
          go_simp
        try simp only [Act.put, List.setIfInBounds_toArray, List.set_cons_zero, List.set_cons_succ]
        refine tk 12 33 (.pointer (some ⟨S, 0, none⟩)) BD.out ?y12 ?_
        case y12 =>
          intro w' hw'
          go_simp
        try simp only [Act.put, List.setIfInBounds_toArray, List.set_cons_zero, List.set_cons_succ]
        refine tk 13 34 (.pointer (some ⟨S, 0, none⟩)) BD.out ?y13 ?_
        case y13 =>
          intro w' hw'
          go_simp
        try simp only [Act.put, List.setIfInBounds_toArray, List.set_cons_zero, List.set_cons_succ]
        refine tk 14 35 (.slice Ac cs.length cc) BD.out ?y14 ?_
        case y14 =>
          intro w' hw'
          have y0 := (World.cell?_of_block (a := ⟨S, 0, none⟩) hw').trans c0
          go_simp
        try simp only [Act.put, List.setIfInBounds_toArray, List.set_cons_zero, List.set_cons_succ]
        refine tk 15 36 (.int .i64 cs.length) BD.out ?y15 ?_
        case y15 =>
          intro w' hw'
          go_simp
        try simp only [Act.put, List.setIfInBounds_toArray, List.set_cons_zero, List.set_cons_succ]
        have SDA := Lib.hid SD.out.ltA
        have NSA := Lib.hid (show some S ≠ some bA from fun e => by cases e; have := SD.out.tS; rw [SD.out.tA] at this; cases this)
        have HGN : gk.n ≤ 1001000 := by have := hR.out.hn; omega
        refine tw 10 16 (fun K hK => ?_) (fun K hK => ?_)
        · obtain ⟨zv, zs, hrun, hat, hoi, hzl, hback, hsh⟩ := groups_look SD.out.gr HNM.out HXM.out
          have HAT := Lib.hid hat
          have HOI := Lib.hid hoi
          have HZL := Lib.hid (show zs.length ≤ gk.n from hzl)
          have HBK := Lib.hid hback
          have HSH := Lib.hid hsh
          have VT := Lib.hid (show ∀ q, zv.ownBlock = some q → gk.own q = 4 from fun q hq => Classical.byContradiction fun e => hsh _ SD.out.tg q hq e)
          have OB := Lib.hid (show (Value.slice (some ⟨b1, o1, none⟩) d.length c1).ownBlock = none ∨ (Value.slice (some ⟨b1, o1, none⟩) d.length c1).ownBlock ≠ zv.ownBlock from .inr fun e => by have h1 := hR.out.ht b1 rfl; have h2 := VT.out b1 e.symm; omega)
          have OB2 := Lib.hid (show (Value.slice (some ⟨b1, o1, none⟩) d.length c1).ownBlock = none ∨ (Value.slice (some ⟨b1, o1, none⟩) d.length c1).ownBlock ≠ some bA from .inr fun e => by have h1 := hR.out.ht bA e; have h2 := SD.out.tA; omega)
          have VB := Lib.hid (show ∀ q, zv.ownBlock = some q → B ≤ q from fun q hq => by have := (hoi.1.lt q hq).1; have := SD.out.hB; omega)
          clear hat hoi hzl hback hsh
          go_simp
          refine hK.out _ _ (fun _ => BD.out) ?_
          clear hK K
          try simp only [Act.put, List.setIfInBounds_toArray, List.set_cons_zero, List.set_cons_succ]
          refine on 16 (fun K hK => ?_)
          go_simp
          refine hK.out _ _ (fun _ => (Below.heap_alloc _ _ _ SD.out.ltS).trans BD.out) ?_
          clear hK K
          try simp only [Act.put, List.setIfInBounds_toArray, List.set_cons_zero, List.set_cons_succ]
          refine on 17 (fun K hK => ?_)
          refine wp_append_lies (wd.alloc (.cells #[.int .i64 (cs.length : Int)] 3)) (.tmp 31) (.tmp 37) 23 rfl (bA + 1) 3 i0 (.int .i64 0) 1 8 Tryz.underlying23 hi hz0 hz1 hz2 rfl (by decide) zv zs.length (zs.map (Value.int .i64)) rfl (HOI.out.1.alloc _) ⟨wd.heap.size, 0, none⟩ 1 1 [.int .i64 (cs.length : Int)] rfl rfl (cell_one_new _ _ _) (intsB _) (by decide) (by unfold maxLen; have := HZL.out; omega) (by have := HZL.out; omega) (by have := SDA.out; simp; omega) _ rfl ?_
          intro gg cap w2 hown2 hgrow2 hloc2 hlt2
          have hgr := (World.grownBy_alloc wd (.cells #[.int .i64 (cs.length : Int)] 3) zv.ownBlock).trans hgrow2
          have hl2 : (Value.slice (some ⟨gg, 0, none⟩) (zs.length + 1) cap).ownBlock = zv.ownBlock ∨ ∃ q, (Value.slice (some ⟨gg, 0, none⟩) (zs.length + 1) cap).ownBlock = some q ∧ wd.heap.size ≤ q := by
            rcases hloc2 with h | h
            · exact .inl h.symm
            · exact .inr ⟨gg, rfl, by rw [h]; simp⟩
          obtain ⟨w3, hrun3, hg3, hsp3⟩ := SD.out.placed HXM.out HWF.out HNM.out HAT.out HOI.out HZL.out HBK.out HSH.out hgr hown2 hl2
          have U3 := Lib.hid (show Own w3 w.heap.size (.slice (some ⟨b1, o1, none⟩) d.length c1) d from UD.out.kept hgr (OB.out) |>.kept hg3 OB2.out)
          have B3 := Lib.hid (show Below B w w3 from (BDB.out.grown hgr (by have := BDB.out.size; omega) (fun q hq => VB.out q hq)).grown hg3 (by have := BDB.out.size; have := hgr.size; omega) (fun q hq => by cases hq; exact SD.out.hB))
          have S3 := Lib.hid hsp3
          have SZ3 := Lib.hid (Nat.le_trans hgr.size hg3.size)
          have BW2 := Lib.hid (show w2.heap[S]? = wr.heap[S]? from (hgr.block S SD.out.ltS (SD.out.ne VT.out SD.out.tS (by decide))).trans BD.out)
          have BW3 := Lib.hid (show w3.heap[S]? = wr.heap[S]? from (hg3.block S (Nat.lt_of_lt_of_le SD.out.ltS hgr.size) NSA.out).trans BW2.out)
          clear hsp3 hg3 hgr hl2 hown2 hgrow2 hloc2 hlt2
          refine hK.out _ _ (fun _ => BW2.out) ?_
          clear hK K
          try simp only [Act.put, List.setIfInBounds_toArray]
          refine on 18 (fun K hK => ?_)
          go_simp
          refine hK.out _ _ (fun _ => BW3.out) ?_
          clear hK K
          try simp only [Act.put, List.setIfInBounds_toArray, List.set_cons_zero, List.set_cons_succ]
          refine dn ?_
          go_wp2
          go_roundw
          case rel =>
            refine ⟨k + 1, { gk with n := gk.n + 1, D := gk.D.put (.int .i64 x) (rowDatum .i64 (.slice (some ⟨gg, 0, none⟩) (zs.length + 1) cap) (zs ++ [(cs.length : Int)])), own := reown gk.own wd.heap.size 4 }, by omega, by go_num, Lib.hid ⟨?_, U3.out, fun j hj => ?_, ?_, hR.out.hT, B3.out, ?_⟩⟩
            · rw [← atK_succ HDN.out hlt HX.out]
              exact S3.out
            · cases hj
              refine (reown_old ?_).trans (hR.out.ht b1 rfl)
              have := (UD.out.lt b1 rfl).2
              first | exact this | (simp; omega)
            · have := hR.out.hn
              show gk.n + 1 ≤ g.n + (k + 1)
              omega
            · have h1 := hR.out.hs
              have h2 := SZ3.out
              have h3 := SZ.out
              omega
          case measure => simp [intOf]; omega
        · go_simp
          refine hK.out _ _ (fun _ => (Below.heap_alloc _ _ _ SD.out.ltS).trans BD.out) ?_
          clear hK K
          try simp only [Act.put, List.setIfInBounds_toArray, List.set_cons_zero, List.set_cons_succ]
          have SE := Lib.hid (SD.out.alloc (.cells #[.int .i64 (cs.length : Int)] 3))
          obtain ⟨zv, zs, hrun, hat, hoi, hzl, hback, hsh⟩ := groups_look SE.out.gr HNM.out HXM.out
          have HAT := Lib.hid hat
          have HOI := Lib.hid hoi
          have HZL := Lib.hid hzl
          have HBK := Lib.hid hback
          have HSH := Lib.hid hsh
          have VT := Lib.hid (show ∀ q, zv.ownBlock = some q → gk.own q = 4 from fun q hq => Classical.byContradiction fun e => hsh _ SE.out.tg q hq e)
          have UE := Lib.hid (show Own (wd.alloc (.cells #[.int .i64 (cs.length : Int)] 3)) w.heap.size (.slice (some ⟨b1, o1, none⟩) d.length c1) d from World.ownsRow.alloc UD.out _)
          have OB := Lib.hid (show (Value.slice (some ⟨b1, o1, none⟩) d.length c1).ownBlock = none ∨ (Value.slice (some ⟨b1, o1, none⟩) d.length c1).ownBlock ≠ zv.ownBlock from .inr fun e => by have h1 := hR.out.ht b1 rfl; have h2 := VT.out b1 e.symm; omega)
          have OB2 := Lib.hid (show (Value.slice (some ⟨b1, o1, none⟩) d.length c1).ownBlock = none ∨ (Value.slice (some ⟨b1, o1, none⟩) d.length c1).ownBlock ≠ some bA from .inr fun e => by have h1 := hR.out.ht bA e; have h2 := SE.out.tA; omega)
          have VB := Lib.hid (show ∀ q, zv.ownBlock = some q → B ≤ q from fun q hq => by have := (hoi.1.lt q hq).1; have := SE.out.hB; omega)
          clear hat hoi hzl hback hsh
          refine on 10 (fun K hK => ?_)
          go_simp
          refine hK.out _ _ (fun _ => (Below.heap_alloc _ _ _ SD.out.ltS).trans BD.out) ?_
          clear hK K
          try simp only [Act.put, List.setIfInBounds_toArray, List.set_cons_zero, List.set_cons_succ]
          refine on 17 (fun K hK => ?_)
          refine wp_append_lies (wd.alloc (.cells #[.int .i64 (cs.length : Int)] 3)) (.tmp 31) (.tmp 37) 23 rfl (bA + 1) 3 i0 (.int .i64 0) 1 8 Tryz.underlying23 hi hz0 hz1 hz2 rfl (by decide) zv zs.length (zs.map (Value.int .i64)) rfl HOI.out.1 ⟨wd.heap.size, 0, none⟩ 1 1 [.int .i64 (cs.length : Int)] rfl rfl (cell_one_new _ _ _) (intsB _) (by decide) (by unfold maxLen; have := HZL.out; omega) (by have := HZL.out; omega) (by have := SDA.out; simp; omega) _ rfl ?_
          intro gg cap w2 hown2 hgrow2 hloc2 hlt2
          have hgr := hgrow2
          have hl2 : (Value.slice (some ⟨gg, 0, none⟩) (zs.length + 1) cap).ownBlock = zv.ownBlock ∨ ∃ q, (Value.slice (some ⟨gg, 0, none⟩) (zs.length + 1) cap).ownBlock = some q ∧ (wd.alloc (.cells #[.int .i64 (cs.length : Int)] 3)).heap.size ≤ q := by
            rcases hloc2 with h | h
            · exact .inl h.symm
            · exact .inr ⟨gg, rfl, by rw [h]; exact Nat.le_refl _⟩
          obtain ⟨w3, hrun3, hg3, hsp3⟩ := SE.out.placed HXM.out HWF.out HNM.out HAT.out HOI.out HZL.out HBK.out HSH.out hgr hown2 hl2
          have U3 := Lib.hid (show Own w3 w.heap.size (.slice (some ⟨b1, o1, none⟩) d.length c1) d from UE.out.kept hgr (OB.out) |>.kept hg3 OB2.out)
          have B3 := Lib.hid (show Below B w w3 from ((BDB.out.alloc (by have := BDB.out.size; omega) _).grown hgr (by have := BDB.out.size; simp; omega) (fun q hq => VB.out q hq)).grown hg3 (by have := BDB.out.size; have := hgr.size; simp at this; omega) (fun q hq => by cases hq; exact SD.out.hB))
          have S3 := Lib.hid hsp3
          have SZ3 := Lib.hid (show wd.heap.size ≤ w3.heap.size by have := hgr.size; have := hg3.size; simp at *; omega)
          have BW2 := Lib.hid (show w2.heap[S]? = wr.heap[S]? from (hgr.block S SE.out.ltS (SE.out.ne VT.out SD.out.tS (by decide))).trans ((Below.heap_alloc _ _ _ SD.out.ltS).trans BD.out))
          have BW3 := Lib.hid (show w3.heap[S]? = wr.heap[S]? from (hg3.block S (Nat.lt_of_lt_of_le SE.out.ltS hgr.size) NSA.out).trans BW2.out)
          clear hsp3 hg3 hgr hl2 hown2 hgrow2 hloc2 hlt2
          refine hK.out _ _ (fun _ => BW2.out) ?_
          clear hK K
          try simp only [Act.put, List.setIfInBounds_toArray]
          refine on 18 (fun K hK => ?_)
          go_simp
          refine hK.out _ _ (fun _ => BW3.out) ?_
          clear hK K
          try simp only [Act.put, List.setIfInBounds_toArray, List.set_cons_zero, List.set_cons_succ]
          refine dn ?_
          go_wp2
          go_roundw
          case rel =>
            refine ⟨k + 1, { gk with n := gk.n + 1, D := gk.D.put (.int .i64 x) (rowDatum .i64 (.slice (some ⟨gg, 0, none⟩) (zs.length + 1) cap) (zs ++ [(cs.length : Int)])), own := reown gk.own (wd.alloc (.cells #[.int .i64 (cs.length : Int)] 3)).heap.size 4 }, by omega, by go_num, Lib.hid ⟨?_, U3.out, fun j hj => ?_, ?_, hR.out.hT, B3.out, ?_⟩⟩
            · rw [← atK_succ HDN.out hlt HX.out]
              exact S3.out
            · cases hj
              refine (reown_old ?_).trans (hR.out.ht b1 rfl)
              have := (UD.out.lt b1 rfl).2
              first | exact this | (simp; omega)
            · have := hR.out.hn
              show gk.n + 1 ≤ g.n + (k + 1)
              omega
            · have h1 := hR.out.hs
              have h2 := SZ3.out
              have h3 := SZ.out
              omega
          case measure => simp [intOf]; omega
      · have hkd : k = d.length := by omega
        subst hkd
        have hul := hR.out.sp.ul
        have HUS := Lib.hid hul
        obtain ⟨Ao, co, evo⟩ := hR.out.sp.ro.form
        have HEC := Lib.hid evc
        have HEO := Lib.hid evo
        have hBr : B ≤ wr.heap.size := by have := hR.out.sp.hSB; omega
        have SA := Lib.hid (hR.out.sp.alloc (.cells #[.slice A1 d.length c1] 23))
        have RC := Lib.hid (show (wr.alloc (.cells #[.slice A1 d.length c1] 23)).ownsRow B 23 1 (.slice Ac cs.length cc) cs.length gk.us by rw [← HEC.out, ← HUS.out]; exact SA.out.rc)
        have QA := Lib.hid (show B ≤ (wr.alloc (.cells #[.slice A1 d.length c1] 23)).heap.size by simp; omega)
        have QL := Lib.hid (show cs.length ≤ 1000000 by omega)
        have QO := Lib.hid (show ops.length ≤ 1000000 by omega)
        clear evc evo hul
        go_wp2_with (first
          | (at_builtin
             refine wpList_push _ rfl (.tmp 44) (.tmp 46) 22 rfl 23 j0 (.slice none 0 0) 24 Tryz.underlying22 ki kz0 kz1 kz2 rfl (by decide) B (.slice Ac cs.length cc) cs.length gk.us rfl RC.out wr.heap.size 1 (.slice A1 d.length c1) rfl (cell_new _ _ _) rfl QL.out QA.out ?_
             intro v2 w2 hown2 hgrow2 hloc2
             have hlen2 : (gk.us ++ [Value.slice A1 d.length c1]).length = cs.length + 1 := by simp [HUS.out]
             have hown3 : w2.ownsRow B 23 1 v2 (gk.us ++ [Value.slice A1 d.length c1]).length (gk.us ++ [Value.slice A1 d.length c1]) := by rw [hlen2]; exact hown2
             obtain ⟨A2, c2, e2⟩ := Mesh.form hown3
             rw [hlen2] at e2
             subst e2
             have hgt := hgrow2
             rw [← HEC.out] at hgt hloc2
             have hb2 := (hgt.block S SA.out.ltS (SA.out.ne SA.out.tc SA.out.tS (by decide))).trans SA.out.hS
             have d0 : w2.cell? ⟨S, 0, none⟩ = some (.slice Ac cs.length cc) := by rw [← HEC.out]; exact (five hb2 0).1
             have f0 := (five hb2 0).2
             have HCL := Lib.hid (SA.out.clause (v' := .slice A2 (cs.length + 1) c2) hgt (by rw [HUS.out]; exact hown2) hloc2 (World.ownsRow.alloc (hR.out.hu.mono hBw) _) hR.out.ht)
             have d1 : (w2.setCell ⟨S, 0, none⟩ (.slice A2 (cs.length + 1) c2)).cell? ⟨S, 1, none⟩ = some (.slice Ao ops.length co) := by rw [← HEO.out]; exact HCL.out.c1
             have hS2 := HCL.out.ltS
             have BC := Lib.hid (show Below B w (w2.setCell ⟨S, 0, none⟩ (.slice A2 (cs.length + 1) c2)) from ((hR.out.hb.alloc hBr (.cells #[.slice A1 d.length c1] 23)).grown hgt QA.out (fun q hq => (World.ownsRow.lt SA.out.rc q hq).1)).setCell SA.out.hSB _)
             have SB := Lib.hid (HCL.out.alloc (.cells #[.int .i64 (d.length : Int)] 3))
             have QB := Lib.hid (show B ≤ ((w2.setCell ⟨S, 0, none⟩ (.slice A2 (cs.length + 1) c2)).alloc (.cells #[.int .i64 (d.length : Int)] 3)).heap.size by have := HCL.out.hSB; simp at hS2 ⊢; omega)
             have RO := Lib.hid (show ((w2.setCell ⟨S, 0, none⟩ (.slice A2 (cs.length + 1) c2)).alloc (.cells #[.int .i64 (d.length : Int)] 3)).ownsRow B 3 1 (.slice Ao ops.length co) ops.length (encs ops) by rw [← HEO.out]; exact SB.out.ro)
             have CN := Lib.hid (show ((w2.setCell ⟨S, 0, none⟩ (.slice A2 (cs.length + 1) c2)).alloc (.cells #[.int .i64 (d.length : Int)] 3)).cell? ⟨w2.heap.size, 0, none⟩ = some (.int .i64 (d.length : Int)) by have := cell_new (w2.setCell ⟨S, 0, none⟩ (.slice A2 (cs.length + 1) c2)) (.int .i64 (d.length : Int)) 3; simpa using this)
             clear hown2 hown3 hgrow2 hloc2 hgt hb2 hlen2)
          | (at_builtin
             refine wpList_push _ rfl (.tmp 54) (.tmp 57) 23 rfl 3 i0 (.int .i64 0) 8 Tryz.underlying23 hi hz0 hz1 hz2 rfl (by decide) B (.slice Ao ops.length co) ops.length (encs ops) rfl RO.out w2.heap.size 1 (.int .i64 (d.length : Int)) rfl CN.out rfl QO.out QB.out ?_
             intro v5 w5 hown5 hgrow5 hloc5
             have HO5 := Lib.hid (Own.push hown5)
             obtain ⟨A5, c5, e5⟩ := HO5.out.form
             rw [List.length_append, show [(d.length : Int)].length = 1 from rfl] at e5
             subst e5
             have hgt := hgrow5
             rw [← HEO.out] at hgt hloc5
             have HG5 := Lib.hid hgt
             have HL5 := Lib.hid hloc5
             have hb5 := (hgt.block S SB.out.ltS (SB.out.ne SB.out.to_ SB.out.tS (by decide))).trans SB.out.hS
             have e1 : w5.cell? ⟨S, 1, none⟩ = some (.slice Ao ops.length co) := by rw [← HEO.out]; exact (five hb5 1).1
             have f1 := (five hb5 1).2
             clear hown5 hgrow5 hloc5 hgt hb5))
        go_end0
        have HT := SB.out.opened HG5.out HO5.out HL5.out
        refine ⟨rfl, ((BC.out.alloc (by have := HCL.out.hSB; have := HCL.out.ltS; omega) (.cells #[.int .i64 (d.length : Int)] 3)).grown HG5.out QB.out (fun q hq => (SB.out.ro.lt q hq).1)).setCell SB.out.hSB _, _, ?_, ?_, .inr ⟨HNO.out, by rw [HD.out]; exact HT⟩⟩
        · exact hR.out.hT
        · have h1 := hR.out.hn
          have h2 := HUL.out
          show gk.n ≤ g.n + c.length
          omega
end Go.Proofs.YtpfoaaiedfidbaaGreatDoor
