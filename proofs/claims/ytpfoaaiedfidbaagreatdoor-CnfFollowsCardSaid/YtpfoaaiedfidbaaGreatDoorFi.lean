/- All that follows one by one, or that a clause can't hold. -/
import Derived.Test.YtpfoaaiedfidbaaGreatDoorFh
import Derived.Test.YtpfoaaiedfidbaaGreatDoorFf
import Derived.Test.YtpfoaaiedfidbaaGreatDoorDd
namespace Go.Proofs.YtpfoaaiedfidbaaGreatDoor
open Go Go.RowKit Go.Maps

/-- What Spread tells. -/
def SpreadPost (l : List (List Int)) (is : List Int) (w : World) (e : Ending) (w' : World) : Prop :=
  Below w.heap.size w w' ∧ ((∃ v' a, e = .returned (.tuple #[v', .bool true]) ∧ Own w' w.heap.size v' a ∧ SpreadOk l is a ∧ (∀ n ∈ a, n ∈ is ++ l.flatten)) ∨ (e = .returned (.tuple #[.slice none 0 0, .bool false]) ∧ SpreadNo l is))
/-- The clauses that were handed over aren't many. -/
structure Few (l : List (List Int)) (is : List Int) : Prop where
  ll : l.length ≤ 40
  lc : ∀ c ∈ l, c.length ≤ 20
  li : is.length ≤ 2000
  ml : allMay l = true
  mi : rowMay is = true
theorem Few.small {l : List (List Int)} {is : List Int} (h : Few l is) : Small l := ⟨by have := h.ll; omega, fun c hc => by have := h.lc c hc; omega⟩
theorem CsOf.nil : CsOf [] [] := ⟨by simp, by simp⟩
theorem CsOf.snoc_both {l cs : List (List Int)} {c : List Int} (h : CsOf l cs) (hm : rowMay c = true) (hb : bothB c = true) : CsOf (l ++ [c]) cs := by
  refine ⟨fun d hd => ?_, fun c0 h0 => ?_⟩
  · obtain ⟨h1, h2, c0, h3, h4⟩ := h.up d hd
    exact ⟨h1, h2, c0, by simp [h3], h4⟩
  · rw [List.mem_append, List.mem_singleton] at h0
    rcases h0 with h0 | rfl
    · exact h.all c0 h0
    · obtain ⟨n, h1, h2⟩ := bothB_iff.1 hb
      have := (mayB_iff.1 (rowMay_iff.1 hm n h1)).1
      exact .inl ⟨n, h1, by omega, h2⟩
theorem CsOf.snoc {l cs : List (List Int)} {c : List Int} (h : CsOf l cs) (hb : bothB c = false) : CsOf (l ++ [c]) (cs ++ [upL c]) := by
  refine ⟨fun d hd => ?_, fun c0 h0 => ?_⟩
  · rw [List.mem_append, List.mem_singleton] at hd
    rcases hd with hd | rfl
    · obtain ⟨h1, h2, c0, h3, h4⟩ := h.up d hd
      exact ⟨h1, h2, c0, by simp [h3], h4⟩
    · exact ⟨upL_rising c, bothB_no.1 (by rw [bothB_upL]; exact hb), c, by simp, fun n => mem_upL⟩
  · rw [List.mem_append, List.mem_singleton] at h0
    rcases h0 with h0 | rfl
    · rcases h.all c0 h0 with h1 | ⟨d, h2, h3⟩
      · exact .inl h1
      · exact .inr ⟨d, by simp [h2], h3⟩
    · exact .inr ⟨upL c0, by simp, fun n => mem_upL⟩
theorem OpsAt.snoc {cs : List (List Int)} {ops c : List Int} (h : OpsAt cs ops (fun _ => [])) : OpsAt (cs ++ [c]) (ops ++ [(c.length : Int)]) (fun _ => []) := by
  refine ⟨by simp [h.1], fun i hi => ?_⟩
  by_cases e : i < cs.length
  · have e1 : (ops ++ [(c.length : Int)]).getD i 0 = ops.getD i 0 := by simp [List.getD, List.getElem?_append_left (by rw [h.1]; exact e : i < ops.length)]
    have e2 : (cs ++ [c]).getD i [] = cs.getD i [] := by simp [List.getD, List.getElem?_append_left e]
    rw [e1, e2]
    exact h.2 i e
  · have : i = cs.length := by simp at hi; omega
    subst this
    have e1 : (ops ++ [(c.length : Int)]).getD cs.length 0 = c.length := by simp [List.getD, ← h.1]
    have e2 : (cs ++ [c]).getD cs.length [] = c := by simp [List.getD]
    rw [e1, e2, cnt_nil]
/-- The clauses of the spreader, so many handed over. -/
structure SRel (b : Nat) (l : List (List Int)) (w1 : World) (k : Nat) (g : Gh) (cs : List (List Int)) (ops : List Int) (wr : World) : Prop where
  sp : SpAt b (b + 2) b (b + 1) g cs ops [] [] (idxL cs) wr
  of_ : CsOf (l.take k) cs
  hop : OpsAt cs ops (fun _ => [])
  nT : g.nT = 0
  nn : g.n ≤ 1000 * k
  len : cs.length ≤ k
  rows : ∀ c ∈ cs, c.length ≤ 1000
  hb : Below b w1 wr
/-- Some of what was told is true. -/
structure TRel (b : Nat) (cs : List (List Int)) (ops d : List Int) (w1 : World) (n0 k : Nat) (g : Gh) (wr : World) : Prop where
  sp : SpAt b (b + 2) b (b + 1) g cs ops (d.take k) (d.take k) (idxL cs) wr
  nT : g.nT ≤ k
  nn : g.n = n0
  hb : Below b w1 wr
def gh0 (b : Nat) : Gh := ⟨.slice none 0 0, .slice none 0 0, .slice none 0 0, [], 0, 0, .map [], fun k => if k = b then 6 else if k = b + 1 then 7 else 5⟩
theorem spreader_new (w : World) : SpAt w.heap.size (w.heap.size + 2) w.heap.size (w.heap.size + 1) (gh0 w.heap.size) [] [] [] [] (idxL []) (((w.alloc (.map #[] 0)).alloc (.map #[] 0)).alloc (.cells #[.slice none 0 0, .slice none 0 0, .map (some w.heap.size), .map (some (w.heap.size + 1)), .slice none 0 0] 51)) where
  hS := by
    have := heap_alloc_new ((w.alloc (.map #[] 0)).alloc (.map #[] 0)) (.cells #[.slice none 0 0, .slice none 0 0, .map (some w.heap.size), .map (some (w.heap.size + 1)), .slice none 0 0] 51)
    have e : ((w.alloc (.map #[] 0)).alloc (.map #[] 0)).heap.size = w.heap.size + 2 := by simp
    rw [e] at this
    exact this
  ul := rfl
  rc := World.ownsRow_nil _ _ _ _
  rr := fun j hj => by simp at hj
  ro := World.ownsRow_nil _ _ _ _
  rt := World.ownsRow_nil _ _ _ _
  st := by
    have := (SetAt.made (w.alloc (.map #[] 0))).alloc (.cells #[.slice none 0 0, .slice none 0 0, .map (some w.heap.size), .map (some (w.heap.size + 1)), .slice none 0 0] 51)
    have e : (w.alloc (.map #[] 0)).heap.size = w.heap.size + 1 := by simp
    rw [e] at this
    exact this
  gr := by
    have h0 := World.ownsGroups_made (H := Unit) w Tryz.prog 3 3 .i64
    have h1 := h0.kept (w' := (w.alloc (.map #[] 0)).alloc (.map #[] 0)) (row := none) (World.grownBy_alloc _ _ _) (by simp) (fun es clock _ x _ => by cases x.val.ownBlock <;> simp)
    exact h1.kept (row := none) (World.grownBy_alloc _ _ _) (by simp) (fun es clock _ x _ => by cases x.val.ownBlock <;> simp)
  gd := fun x => by simp [gh0, idxL, DataW.atKey, numsOf]
  hB := Nat.le_refl _
  hT := by omega
  hSB := by omega
  tS := by simp [gh0]
  tA := by simp [gh0]
  tT := by simp [gh0]
  tc := fun k hk => by cases hk
  tr_ := fun j hj => by simp at hj
  to_ := fun k hk => by cases hk
  tt := fun k hk => by cases hk
  tg := by
    have h0 := World.Shuns_made w (fun k => (gh0 w.heap.size).own k ≠ 4)
    have h1 := h0.kept (w' := (w.alloc (.map #[] 0)).alloc (.map #[] 0)) (row := none) (World.grownBy_alloc _ _ _) (by simp) (by simp)
    exact h1.kept (row := none) (World.grownBy_alloc _ _ _) (by simp; omega) (by simp)
theorem srt_rising {tr : List Int} (h : tr.Nodup) : Rising (srt tr) := by
  have hp := srt_pair tr
  have hn : (srt tr).Nodup := (List.mergeSort_perm tr _).nodup_iff.2 h
  unfold Rising
  have := hp.and hn
  exact this.imp (fun {a b} h => by have h1 := h.1; have h2 := h.2; omega)
set_option maxHeartbeats 8000000 in
set_option maxRecDepth 100000 in
theorem spread_any (v u : Value) (l : List (List Int)) (is : List Int) (w : World) (D : Nat) (hv : Grid w D v l) (hu : Nums w D u is) (hf : Few l is) (hD : D ≤ w.heap.size) :
    Calls Tryz.prog 11 #[v, u] w (SpreadPost l is w) := by
  have HV := Lib.hid hv
  have HF := Lib.hid hf
  have HC := Lib.hid (clean_any u is w D hu (by have := hf.li; omega) hf.mi)
  have hmk := @run_makeMap Tryz.prog
  have hll := hf.ll
  obtain ⟨Al, cl, rfl, _⟩ := hv
  obtain ⟨Ai, ci, rfl, _⟩ := hu
  clear hf
  go_enter Tryz.func11, Tryz.ntmps11
  go_wp2_with fail
  refine (HC.out).mono ?_
  rintro e w1 ⟨hb1, (⟨hno, v1, rfl, ho1⟩ | ⟨hyes, rfl⟩)⟩
  rotate_left
  · have HB1 := Lib.hid hb1
    have HY := Lib.hid hyes
    clear hb1 hyes HC
    go_wp2
    go_ret2
    exact ⟨HB1.out, .inr ⟨rfl, .inl (bothB_iff.1 HY.out)⟩⟩
  · have HNO := Lib.hid hno
    have HB1 := Lib.hid hb1
    obtain ⟨d, hd⟩ : ∃ d, upL is = d := ⟨_, rfl⟩
    rw [hd] at ho1
    have HDE := Lib.hid hd
    have hul := upL_len is
    rw [hd] at hul
    have hdl : d.length ≤ 2000 := by have := HF.out.li; omega
    obtain ⟨A1, c1, e1⟩ := ho1.form
    subst e1
    have HO1 := Lib.hid ho1
    have hs1 := hb1.size
    have hnew := Lib.hid (spreader_new w1)
    have hnb := Lib.hid (show Below w1.heap.size w1 (((w1.alloc (.map #[] 0)).alloc (.map #[] 0)).alloc (.cells #[.slice none 0 0, .slice none 0 0, .map (some w1.heap.size), .map (some (w1.heap.size + 1)), .slice none 0 0] 51)) from
      (((Below.refl _ _).alloc (Nat.le_refl _) _).alloc (by simp) _).alloc (by simp; omega) _)
    obtain ⟨b, hbe⟩ : ∃ b, w1.heap.size = b := ⟨_, rfl⟩
    clear hno hb1 ho1 hd hul HC
    rw [hbe] at hnew hnb hs1
    have HBE := Lib.hid hbe
    have HDM := Lib.hid (show rowMay d = true by rw [← HDE.out]; exact rowMay_upL HF.out.mi)
    go_wp2_with fail
    go_loopw [25] (fun i wr => ∃ (k : Nat) (g : Gh) (cs : List (List Int)) (ops : List Int), k ≤ l.length ∧ i = .int .i64 k ∧ Hid (SRel b l w1 k g cs ops wr)) (fun i _ => l.length - (intOf i).toNat)
    case atStart => exact ⟨0, gh0 b, [], [], Nat.zero_le _, rfl, Lib.hid ⟨hnew.out, by simpa using CsOf.nil, ⟨rfl, by simp⟩, rfl, by simp [gh0], by simp, by simp, hnb.out⟩⟩
    case round =>
      obtain ⟨k, g, cs, ops, hk, rfl, hS⟩ := hrel
      have hbw := Lib.hid (show Below w.heap.size w wr from HB1.out.trans (hS.out.hb.mono hs1))
      by_cases hlt : k < l.length
      · obtain ⟨A', c', e', _, hat⟩ := HV.out.below hbw.out hD
        cases e'
        obtain ⟨bl, ol, rfl, hbl, hcell⟩ := hat (by omega)
        obtain ⟨c, hc⟩ : ∃ c, l.getD k [] = c := ⟨_, rfl⟩
        obtain ⟨uc, hu0, hnu⟩ := hcell k hlt
        rw [hc] at hnu
        have hcm : c ∈ l := hc ▸ getD_memL hlt
        have hmc := allMay_iff.1 HF.out.ml c hcm
        have hlc := HF.out.lc c hcm
        have hcsl := hS.out.len
        have HA := Lib.hid (add_any uc c wr D hS.out.sp hnu hmc (by omega) (by omega) (by rw [hS.out.hop.1]; omega) (by have := hS.out.nn; omega))
        have HMC := Lib.hid hmc
        have HTK := Lib.hid (show l.take (k + 1) = l.take k ++ [c] by rw [List.take_succ_eq_append_getElem hlt]; congr 2; rw [← hc]; simp [List.getD, List.getElem?_eq_getElem hlt])
        obtain ⟨Au, cu, rfl, _⟩ := hnu
        clear hcell hat hc hmc hcm
        go_wp2_with fail
        refine (HA.out).mono ?_
        rintro e w2 ⟨rfl, hb2, g2, hn2, hm2, hcase⟩
        have HX : Hid (∃ cs2 ops2, SRel b l w1 (k + 1) g2 cs2 ops2 w2) := Lib.hid (by
          have hnn : g2.n ≤ 1000 * (k + 1) := by have := hS.out.nn; omega
          rcases hcase with ⟨hy, hsp⟩ | ⟨hno2, hsp⟩
          · exact ⟨cs, ops, hsp, by rw [HTK.out]; exact hS.out.of_.snoc_both HMC.out hy, hS.out.hop, by rw [hn2]; exact hS.out.nT, hnn, by omega, hS.out.rows, hS.out.hb.trans hb2⟩
          · refine ⟨cs ++ [upL c], ops ++ [((upL c).length : Int)], ?_, by rw [HTK.out]; exact hS.out.of_.snoc hno2, hS.out.hop.snoc, by rw [hn2]; exact hS.out.nT, hnn, by simp; omega, fun x hx => ?_, hS.out.hb.trans hb2⟩
            · have he : idxL (cs ++ [upL c]) = atK (idxL cs) cs.length (upL c) (upL c).length := by funext y; exact idxL_snoc cs (upL c) y
              rw [he]
              exact hsp
            · rw [List.mem_append, List.mem_singleton] at hx
              rcases hx with hx | rfl
              · exact hS.out.rows x hx
              · have := upL_len c; omega)
        obtain ⟨cs2, ops2, hS2⟩ := HX.out
        have HS2 := Lib.hid hS2
        clear HX hS2 hcase hn2 hm2 hb2 HA
        go_wp2
        go_roundw
        case rel => exact ⟨k + 1, g2, cs2, ops2, by omega, by go_num, HS2⟩
        case measure => simp [intOf]; omega
      · have hkl : k = l.length := by omega
        have HOF := Lib.hid (show CsOf l cs by have := hS.out.of_; rwa [List.take_of_length_le (by omega)] at this)
        have hcsl := hS.out.len
        have T0 := Lib.hid (show TRel b cs ops d w1 g.n 0 g wr from ⟨by simpa using hS.out.sp, by rw [hS.out.nT]; exact Nat.le_refl _, rfl, hS.out.hb⟩)
        have hgn : g.n ≤ 40000 := by have := hS.out.nn; omega
        obtain ⟨wo, rfl⟩ : ∃ wo : World, wo = wr := ⟨_, rfl⟩
        clear hkl
        go_wp2
        go_loopw [34] (fun i wr => ∃ (j : Nat) (g2 : Gh), j ≤ d.length ∧ i = .int .i64 j ∧ Hid (TRel b cs ops d w1 g.n j g2 wr)) (fun i _ => d.length - (intOf i).toNat)
        case atStart => exact ⟨0, g, Nat.zero_le _, rfl, T0⟩
        case round =>
          obtain ⟨j, g2, hj, rfl, hT⟩ := hrel
          by_cases hltj : j < d.length
          · obtain ⟨A', c', e', _, hat⟩ := (HO1.out.below hT.out.hb (by rw [HBE.out]; exact Nat.le_refl _)).nums
            cases e'
            obtain ⟨bd, od, rfl, hbd, hcell⟩ := hat (by omega)
            obtain ⟨x, hx⟩ : ∃ x, d.getD j 0 = x := ⟨_, rfl⟩
            have cx := hcell j hltj
            rw [hx] at cx
            have HTL := Lib.hid (tell_any x wr hT.out.sp (rowMay_iff.1 HDM.out x (hx ▸ getD_mem hltj)) (by have := List.length_take_le j d; omega) (by have := hT.out.nT; omega))
            have HTK := Lib.hid (show d.take (j + 1) = d.take j ++ [x] by rw [List.take_succ_eq_append_getElem hltj]; congr 2; rw [← hx]; simp [List.getD, List.getElem?_eq_getElem hltj])
            clear hcell hat hx
            go_wp2_with fail
            refine (HTL.out).mono ?_
            rintro e w2 ⟨rfl, g3, hsp3, hn3, hm3, _, _, hb3⟩
            have R := Lib.hid (show TRel b cs ops d w1 g.n (j + 1) g3 w2 from ⟨by rw [HTK.out]; exact hsp3, by have := hT.out.nT; omega, by rw [hm3]; exact hT.out.nn, hT.out.hb.trans hb3⟩)
            clear hsp3 hn3 hm3 hb3 HTL
            go_wp2
            go_roundw
            case rel => exact ⟨j + 1, g3, by omega, by go_num, R⟩
            case measure => simp [intOf]; omega
          · have hjd : d.take j = d := List.take_of_length_le (by omega)
            have hflat : l.flatten.length ≤ l.length * 1000 := flat_len (fun c hc => by have := HF.out.lc c hc; omega)
            have hin : SInv l cs is (is ++ l.flatten) d :=
              { hcs := HOF.out
                htr := ⟨by rw [← HDE.out]; exact nodup_of_rising (upL_rising is), by rw [← HDE.out]; exact bothB_no.1 (by rw [bothB_upL]; exact HNO.out), fun n hn => .told (by rw [← HDE.out] at hn; exact mem_upL.1 hn)⟩
                his := fun n hn => by rw [← HDE.out]; exact mem_upL.2 hn
                sub := fun n hn => by rw [← HDE.out] at hn; exact List.mem_append_left _ (mem_upL.1 hn)
                all := fun c hc n hn => by
                  obtain ⟨_, _, c0, h0, he⟩ := HOF.out.up c hc
                  exact List.mem_append_right _ (List.mem_flatten.2 ⟨c0, h0, (he n).1 hn⟩)
                small := by have := HF.out.li; rw [List.length_append]; omega
                may := fun n hn => by
                  rw [List.mem_append] at hn
                  rcases hn with hn | hn
                  · exact rowMay_iff.1 HF.out.mi n hn
                  · obtain ⟨c, hc, hn⟩ := List.mem_flatten.1 hn
                    exact rowMay_iff.1 (allMay_iff.1 HF.out.ml c hc) n hn }
            have HR := Lib.hid (run_any wr (show RunPre b (b + 2) b (b + 1) g2 l cs is (is ++ l.flatten) ops d wr from
              { sp := by have := hT.out.sp; rwa [hjd] at this
                inv := hin
                hop := hS.out.hop
                nT := by have := hT.out.nT; omega
                nn := by rw [hT.out.nn]; omega
                len := by omega
                rows := hS.out.rows }))
            clear hjd hflat hin
            go_wp2_with fail
            refine (HR.out).mono ?_
            rintro e w2 ⟨hb2, (⟨rfl, g5, tr5, ops5, hsp5, hin5, hall5⟩ | ⟨rfl, hno5⟩)⟩
            rotate_left
            · have HN5 := Lib.hid hno5
              have HB5 := Lib.hid (HB1.out.trans ((hT.out.hb.trans hb2).mono hs1))
              clear hno5 hb2 HR
              go_wp2
              go_ret2
              exact ⟨HB5.out, .inr ⟨rfl, HN5.out⟩⟩
            · have HB5 := Lib.hid (HB1.out.trans ((hT.out.hb.trans hb2).mono hs1))
              have H5 := Lib.hid hsp5
              have HI5 := Lib.hid hin5
              have HA5 := Lib.hid hall5
              obtain ⟨A5, c5, e5⟩ := H5.out.rt.form
              have c4 : w2.cell? ⟨b + 2, 4, none⟩ = some (.slice A5 tr5.length c5) := by rw [← e5]; exact H5.out.c4
              have HE5 := Lib.hid e5
              have HSO := Lib.hid (sort_own (.slice A5 tr5.length c5) tr5 w2 b (by rw [← e5]; exact H5.out.rt) (by have := hin5.len; omega))
              clear hb2 hsp5 hin5 hall5 e5 HR
              go_wp2_with fail
              refine (HSO.out).mono ?_
              rintro e w3 ⟨rfl, ho3, hg3⟩
              have HO3 := Lib.hid ho3
              have hg3' := hg3
              rw [← HE5.out] at hg3'
              have hS3 := (hg3'.block _ H5.out.ltS (H5.out.ne H5.out.tt H5.out.tS (by decide))).trans H5.out.hS
              have d4 : w3.cell? ⟨b + 2, 4, none⟩ = some (.slice A5 tr5.length c5) := by rw [← HE5.out]; exact (five hS3 4).1
              have HB3 := Lib.hid (HB5.out.grown hg3' HB5.out.size (fun k hk => by have := (H5.out.rt.lt k hk).1; omega))
              clear ho3 hg3 hg3' hS3 c4 HSO
              go_wp2
              go_ret2
              refine ⟨HB3.out, .inl ⟨_, srt tr5, rfl, HO3.out.mono hs1, end_ok HI5.out.hcs HI5.out.htr HI5.out.his HA5.out (srt_rising HI5.out.htr.nd) (fun n => mem_srt), fun n hn => HI5.out.sub n (mem_srt.1 hn)⟩⟩
end Go.Proofs.YtpfoaaiedfidbaaGreatDoor
