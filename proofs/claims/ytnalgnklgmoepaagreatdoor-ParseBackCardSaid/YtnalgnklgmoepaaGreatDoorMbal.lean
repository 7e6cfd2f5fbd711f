/- The contract of declared. The parser's recursion, tied. -/
import Derived.Test.YtnalgnklgmoepaaGreatDoorMbak
set_option linter.all false
namespace Go.Proofs.YtnalgnklgmoepaaGreatDoor
open Go Go.RowKit

set_option maxHeartbeats 4000000 in
set_option maxRecDepth 100000 in
theorem declared_does (kind : List UInt8) (void : Bool) (d : Int) : ∀ (B : Nat) (l : List Tok) (w : World), PsAt B l d w → (void = true → (hdT l).text ≠ []) → (declaredP kind void) l ≠ .out → Calls Tryz.prog 92 ((fun p => #[p, .string ⟨kind.toArray⟩, .bool void]) (.pointer (some ⟨B, 0, none⟩))) w (PPost B d w ((declaredP kind void) l)) := by
  intro B l w h hcond hno
  obtain ⟨t, r, rfl⟩ := h.ends.ne
  have S0 := St.start h
  have hBw := S0.hB
  have HNO := Lib.hid hno
  have S0 := Lib.hid S0
  have hmf := makeFunc_run
  have hft := field_text
  have hfk := field_kind
  have hvt : void = true → t.text ≠ [] := hcond
  clear hcond
  clear h hno
  unfold zero6 at *
  go_enter Tryz.func92, Tryz.ntmps92
  cases hv : (void)
  case false =>
    clear hvt
    have H := Lib.hid (peek_any B t r d _ S0.out.ps)
    go_wp2_with fail
    refine (H.out).mono ?_
    rintro e w1 ⟨rfl, hb1⟩
    have S1 := Lib.hid (S0.out.below hb1)
    clear S0
    clear H hb1
    cases hf1 : (typeB t.text)
    case false =>
      have hT : Types w1 := by
        obtain ⟨lo, T, o, c, h1⟩ := S1.out.ps
        exact h1.tab.types
      have H := Lib.hid (type_any ⟨t.text.toArray⟩ _ hT)
      have hdt : (⟨t.text.toArray⟩ : ByteArray).data.toList = t.text := by simp
      rw [hdt, hf1] at H
      unfold tokW tokV at *
      go_wp2_with fail
      refine (H.out).mono ?_
      rintro e w2' ⟨rfl, rfl⟩
      clear H hT hdt
      have H := Lib.hid (take_no B t r d _ S1.out.ps)
      go_wp2_with fail
      refine (H.out).mono ?_
      rintro e w3 ⟨rfl, hg3⟩
      refine ⟨rfl, ?_⟩
      have hbad : (declaredP kind false) (t :: r) = .bad t.line t.col 30 := by simp only [Bool.false_eq_true, if_false, if_true, reduceIte, Bool.not_false, Bool.not_true, Bool.false_or, Bool.true_or, Bool.or_false, Bool.or_true, Bool.and_true, Bool.and_false, Bool.false_and, Bool.true_and, List.nil_append, List.cons_append, List.append_nil, declaredP, takeP, hf1, PR.bind, hdT_cons, takeP]
      rw [hbad]
      exact S1.out.pan ⟨rfl, hg3⟩
    case true =>
      have hT : Types w1 := by
        obtain ⟨lo, T, o, c, h1⟩ := S1.out.ps
        exact h1.tab.types
      have H := Lib.hid (type_any ⟨t.text.toArray⟩ _ hT)
      have hdt : (⟨t.text.toArray⟩ : ByteArray).data.toList = t.text := by simp
      rw [hdt, hf1] at H
      unfold tokW tokV at *
      go_wp2_with fail
      refine (H.out).mono ?_
      rintro e w2' ⟨rfl, rfl⟩
      clear H hT hdt
      have hte : t.text ≠ [] := fun e => by rw [e] at hf1; exact absurd hf1 (by decide)
      have H := Lib.hid (take_yes B t r d _ S1.out.ps hte)
      go_wp2_with fail
      refine (H.out).mono ?_
      rintro e w3 ⟨rfl, hP3, hg3⟩
      have S3 := Lib.hid (S1.out.call hP3 hg3)
      clear S1
      clear H hP3 hg3
      unfold tokW tokV at *
      have hwT : w.heap.size < w3.heap.size := S3.out.lt
      have L4 := Lib.hid (LTok.newO t w3)
      have S4 := Lib.hid (S3.out.alloc (tokO t))
      clear S3
      unfold tokO at *
      obtain ⟨u, rr, hlu⟩ := S4.out.ps.ends.ne
      subst hlu
      cases hn : (nameB u)
      case false =>
        go_wp2_with fail
        refine wp_pan [{ v := faultV u.line u.col 30, recovered := false }] (fun w' => w.grownBy w' (some B)) ?_ ?_
        · refine wp_region_T (S := fun w' => LTok w3.heap.size t w') (tail := fun _ => false) (by kernel_rfl) ?_
          change wpAnyT _ _ _ _ _ _ _ _ _ (World.drew _)
          have SS := Lib.hid S4.out.drew
          have LL := Lib.hid (L4.out.below (Below.refl _ _).drew)
          generalize World.drew _ = wd at *
          refine wpAnyT_take (i := 0) (d := 18) (v := .agg #[.int .i64 t.kind, .string ⟨t.text.toArray⟩, .int .u64 t.num, .int .i64 t.line, .int .i64 t.col]) rfl rfl (by kernel_rfl) (fun _ _ _ h => h) (by rfl) ?y1 LL.out ?_
          case y1 => intro w' hw'; have h0 := hw'.c0; have h1 := hw'.c1; have h2 := hw'.c2; have h3 := hw'.c3; have h4 := hw'.c4; go_simp
          try simp only [Act.put, List.setIfInBounds_toArray, List.set_cons_zero, List.set_cons_succ]
          refine wpAnyT_take (i := 1) (d := 19) (v := .string ⟨kind.toArray⟩) rfl rfl (by kernel_rfl) (fun _ _ _ h => h) (by rfl) ?y2 LL.out ?_
          case y2 => intro w' hw'; go_simp
          try simp only [Act.put, List.setIfInBounds_toArray, List.set_cons_zero, List.set_cons_succ]
          refine wpAnyT_take (i := 2) (d := 20) (v := .pointer (some ⟨B, 0, none⟩)) rfl rfl (by kernel_rfl) (fun _ _ _ h => h) (by rfl) ?y3 LL.out ?_
          case y3 => intro w' hw'; go_simp
          try simp only [Act.put, List.setIfInBounds_toArray, List.set_cons_zero, List.set_cons_succ]
          refine wpAnyT_take (i := 3) (d := 21) (v := .pointer (some ⟨B, 0, none⟩)) rfl rfl (by kernel_rfl) (fun _ _ _ h => h) (by rfl) ?y4 LL.out ?_
          case y4 => intro w' hw'; go_simp
          try simp only [Act.put, List.setIfInBounds_toArray, List.set_cons_zero, List.set_cons_succ]
          refine wpAnyT_two (i := 4) (j := 8) rfl rfl (by kernel_rfl) (by rfl) (by rfl) (fun K hK => ?_) (fun K hK => ?_)
          · go_simp
            have HN51 := atName_any B u rr d _ SS.out.ps
            rw [hn] at HN51
            refine HN51.mono ?_
            rintro e v51 ⟨rfl, hb51⟩
            have S51p := Lib.hid (SS.out.below hb51)
            have L51p := Lib.hid (LL.out.below hb51)
            refine hK.out _ _ (fun _ => L51p.out) ?_
            clear hK K
            try simp only [Act.put, List.setIfInBounds_toArray, List.set_cons_zero, List.set_cons_succ]
            refine wpAnyT_two (i := 5) (j := 8) rfl rfl (by kernel_rfl) (by rfl) (by rfl) (fun K hK => ?_) (fun K hK => ?_)
            · go_simp
              refine (take_no B u rr d _ S51p.out.ps).mono ?_
              rintro e v9 ⟨rfl, hg⟩
              exact ⟨rfl, rfl, grown_trans S51p.out.gr hg⟩
            · go_simp
              have S52a := Lib.hid (S51p.out.alloc zero6)
              have L52a := Lib.hid (L51p.out.below ((Below.refl _ _).alloc (Nat.le_refl _) zero6))
              unfold zero6 at *
              refine hK.out _ _ (fun _ => L52a.out) ?_
              clear hK K
              try simp only [Act.put, List.setIfInBounds_toArray, List.set_cons_zero, List.set_cons_succ]
              refine wpAnyT_one (i := 5) rfl (by kernel_rfl) (by rfl) (fun K hK => ?_)
              go_simp
              refine (take_no B u rr d _ S52a.out.ps).mono ?_
              rintro e v9 ⟨rfl, hg⟩
              exact ⟨rfl, rfl, grown_trans S52a.out.gr hg⟩
          · go_simp
            have S53a := Lib.hid (SS.out.alloc zero6)
            have L53a := Lib.hid (LL.out.below ((Below.refl _ _).alloc (Nat.le_refl _) zero6))
            unfold zero6 at *
            refine hK.out _ _ (fun _ => L53a.out) ?_
            clear hK K
            try simp only [Act.put, List.setIfInBounds_toArray, List.set_cons_zero, List.set_cons_succ]
            refine wpAnyT_one (i := 4) rfl (by kernel_rfl) (by rfl) (fun K hK => ?_)
            go_simp
            have HN54 := atName_any B u rr d _ S53a.out.ps
            rw [hn] at HN54
            refine HN54.mono ?_
            rintro e v54 ⟨rfl, hb54⟩
            have S54p := Lib.hid (S53a.out.below hb54)
            have L54p := Lib.hid (L53a.out.below hb54)
            refine hK.out _ _ (fun _ => L54p.out) ?_
            clear hK K
            try simp only [Act.put, List.setIfInBounds_toArray, List.set_cons_zero, List.set_cons_succ]
            refine wpAnyT_one (i := 5) rfl (by kernel_rfl) (by rfl) (fun K hK => ?_)
            go_simp
            refine (take_no B u rr d _ S54p.out.ps).mono ?_
            rintro e v9 ⟨rfl, hg⟩
            exact ⟨rfl, rfl, grown_trans S54p.out.gr hg⟩
        intro a' w' hd' hg'
        refine ⟨hd', ?_⟩
        have hbad : (declaredP kind false) (t :: u :: rr) = .bad u.line u.col 30 := by simp only [Bool.false_eq_true, if_false, if_true, reduceIte, Bool.not_false, Bool.not_true, Bool.false_or, Bool.true_or, Bool.or_false, Bool.or_true, Bool.and_true, Bool.and_false, Bool.false_and, Bool.true_and, List.nil_append, List.cons_append, List.append_nil, declaredP, takeP, hf1, hn, PR.bind, hdT_cons]
        rw [hbad]
        exact ⟨rfl, hg'⟩
      case true =>
        have hteu : u.text ≠ [] := kind_text S4.out.ps.ends (by simp [nameB] at hn; omega)
        go_wp2_with fail
        have hname : ∀ (W : World), PsAt B (u :: rr) d W → Calls Tryz.prog 106 #[.pointer (some ⟨B, 0, none⟩)] W fun e w' => e = .returned (.bool true) ∧ Below W.heap.size W w' := fun W h => by have := atName_any B u rr d W h; rw [hn] at this; exact this
        have HNM := Lib.hid hname
        clear hname
        refine wp_cut (fun a N => ((((((((a.put (some 18) (.agg #[.int .i64 t.kind, .string ⟨t.text.toArray⟩, .int .u64 t.num, .int .i64 t.line, .int .i64 t.col])).put (some 19) (.string ⟨kind.toArray⟩)).put (some 20) (.pointer (some ⟨B, 0, none⟩))).put (some 21) (.pointer (some ⟨B, 0, none⟩))).put (some 22) (.bool true)).put (some 23) (.agg #[.int .i64 u.kind, .string ⟨u.text.toArray⟩, .int .u64 u.num, .int .i64 u.line, .int .i64 u.col])).put (some 24) (.string ⟨u.text.toArray⟩)).put (some 25) (.agg #[.string ⟨kind.toArray⟩, .string ⟨u.text.toArray⟩, .int .u64 0, .int .i64 t.line, .int .i64 t.col, .slice none 0 0])).put (some 8) (.pointer (some ⟨N, 0, none⟩))) (fun N w' => St w B rr d w' ∧ Nd N kind u.text 0 t.line t.col (.slice none 0 0) [] w' ∧ w.heap.size < N ∧ LTok w3.heap.size t w') ?_ ?_
        · refine wp_region_T (S := fun w' => LTok w3.heap.size t w') (tail := fun _ => false) (by kernel_rfl) ?_
          change wpAnyT _ _ _ _ _ _ _ _ _ (World.drew _)
          have SS := Lib.hid S4.out.drew
          have LL := Lib.hid (L4.out.below (Below.refl _ _).drew)
          generalize World.drew _ = wd at *
          have hwd := SS.out.lt
          have hwl := LL.out.lt
          refine wpAnyT_take (i := 0) (d := 18) (v := .agg #[.int .i64 t.kind, .string ⟨t.text.toArray⟩, .int .u64 t.num, .int .i64 t.line, .int .i64 t.col]) rfl rfl (by kernel_rfl) (fun _ _ _ h => h) (by rfl) ?y1 LL.out ?_
          case y1 => intro w' hw'; have h0 := hw'.c0; have h1 := hw'.c1; have h2 := hw'.c2; have h3 := hw'.c3; have h4 := hw'.c4; go_simp
          try simp only [Act.put, List.setIfInBounds_toArray, List.set_cons_zero, List.set_cons_succ]
          refine wpAnyT_take (i := 1) (d := 19) (v := .string ⟨kind.toArray⟩) rfl rfl (by kernel_rfl) (fun _ _ _ h => h) (by rfl) ?y2 LL.out ?_
          case y2 => intro w' hw'; go_simp
          try simp only [Act.put, List.setIfInBounds_toArray, List.set_cons_zero, List.set_cons_succ]
          refine wpAnyT_take (i := 2) (d := 20) (v := .pointer (some ⟨B, 0, none⟩)) rfl rfl (by kernel_rfl) (fun _ _ _ h => h) (by rfl) ?y3 LL.out ?_
          case y3 => intro w' hw'; go_simp
          try simp only [Act.put, List.setIfInBounds_toArray, List.set_cons_zero, List.set_cons_succ]
          refine wpAnyT_take (i := 3) (d := 21) (v := .pointer (some ⟨B, 0, none⟩)) rfl rfl (by kernel_rfl) (fun _ _ _ h => h) (by rfl) ?y4 LL.out ?_
          case y4 => intro w' hw'; go_simp
          try simp only [Act.put, List.setIfInBounds_toArray, List.set_cons_zero, List.set_cons_succ]
          refine wpAnyT_two (i := 4) (j := 8) rfl rfl (by kernel_rfl) (by rfl) (by rfl) (fun K hK => ?_) (fun K hK => ?_)
          · go_simp
            refine (HNM.out _ SS.out.ps).mono ?_
            rintro e v7 ⟨rfl, hb⟩
            have S7x := Lib.hid (SS.out.below hb)
            have L7x := Lib.hid (LL.out.below hb)
            have hss7 := S7x.out.lt
            have hll7 := L7x.out.lt
            refine hK.out _ _ (fun _ => L7x.out) ?_
            clear hK K
            try simp only [Act.put, List.setIfInBounds_toArray, List.set_cons_zero, List.set_cons_succ]
            refine wpAnyT_two (i := 5) (j := 8) rfl rfl (by kernel_rfl) (by rfl) (by rfl) (fun K hK => ?_) (fun K hK => ?_)
            · go_simp
              refine (take_yes B u rr d _ S7x.out.ps hteu).mono ?_
              rintro e v10 ⟨rfl, hP, hg⟩
              have S10x := Lib.hid (S7x.out.call hP hg)
              have L10x := Lib.hid (L7x.out.grown hg (by simp; omega))
              have hss10 := S10x.out.lt
              have hll10 := L10x.out.lt
              unfold tokW tokV
              refine hK.out _ _ (fun _ => L10x.out) ?_
              clear hK K
              try simp only [Act.put, List.setIfInBounds_toArray, List.set_cons_zero, List.set_cons_succ]
              refine wpAnyT_take (i := 6) (d := 24) (v := .string ⟨u.text.toArray⟩) rfl rfl (by kernel_rfl) (fun _ _ _ h => h) (by rfl) ?y11 L10x.out ?_
              case y11 => intro w' hw'; go_simp
              try simp only [Act.put, List.setIfInBounds_toArray, List.set_cons_zero, List.set_cons_succ]
              refine wpAnyT_two (i := 7) (j := 8) rfl rfl (by kernel_rfl) (by rfl) (by rfl) (fun K hK => ?_) (fun K hK => ?_)
              · go_simp
                have HN := node_any t ⟨kind.toArray⟩ ⟨(u.text).toArray⟩
                unfold tokW tokV at HN
                refine (HN _).mono ?_
                rintro e v14 ⟨rfl, hb⟩
                have S14x := Lib.hid (S10x.out.below hb)
                have L14x := Lib.hid (L10x.out.below hb)
                have hss14 := S14x.out.lt
                have hll14 := L14x.out.lt
                refine hK.out _ _ (fun _ => L14x.out) ?_
                clear hK K
                try simp only [Act.put, List.setIfInBounds_toArray, List.set_cons_zero, List.set_cons_succ]
                refine wpAnyT_one (i := 8) rfl (by kernel_rfl) (by rfl) (fun K hK => ?_)
                go_simp
                refine hK.out _ _ (fun _ => L14x.out.below ((Below.refl _ _).alloc (Nat.le_refl _) _)) ?_
                clear hK K
                try simp only [Act.put, List.setIfInBounds_toArray, List.set_cons_zero, List.set_cons_succ]
                refine wpAnyT_one (i := 9) rfl (by kernel_rfl) (by rfl) (fun K hK => ?_)
                go_simp
                refine hK.out _ _ (fun _ => L14x.out.below ((Below.refl _ _).alloc (Nat.le_refl _) _)) ?_
                clear hK K
                try simp only [Act.put, List.setIfInBounds_toArray, List.set_cons_zero, List.set_cons_succ]
                refine wpAnyT_done (by kernel_rfl) ?_ _
                exact ⟨_, by simp only [Act.put, List.setIfInBounds_toArray, List.set_cons_zero, List.set_cons_succ], S14x.out.alloc _, Nd.new kind u.text 0 t.line t.col _, S14x.out.lt, L14x.out.below ((Below.refl _ _).alloc (Nat.le_refl _) _)⟩
              · go_simp
                have S16a := Lib.hid (S10x.out.alloc zero6)
                have L16a := Lib.hid (L10x.out.below ((Below.refl _ _).alloc (Nat.le_refl _) zero6))
                have N16a := Lib.hid (LNode.new [] [] 0 0 0 (.slice none 0 0) v10)
                have hNs16 := N16a.out.lt
                have hlt16 := S10x.out.lt
                unfold zero6 at *
                refine hK.out _ _ (fun _ => L16a.out) ?_
                clear hK K
                try simp only [Act.put, List.setIfInBounds_toArray, List.set_cons_zero, List.set_cons_succ]
                refine wpAnyT_one (i := 7) rfl (by kernel_rfl) (by rfl) (fun K hK => ?_)
                go_simp
                have HN := node_any t ⟨kind.toArray⟩ ⟨(u.text).toArray⟩
                unfold tokW tokV at HN
                refine (HN _).mono ?_
                rintro e v18 ⟨rfl, hb⟩
                have S18x := Lib.hid (S16a.out.below hb)
                have L18x := Lib.hid (L16a.out.below hb)
                have N18x := Lib.hid (N16a.out.below hb)
                have hNs18 := N18x.out.lt
                have hss18 := S18x.out.lt
                have hll18 := L18x.out.lt
                refine hK.out _ _ (fun _ => L18x.out) ?_
                clear hK K
                try simp only [Act.put, List.setIfInBounds_toArray, List.set_cons_zero, List.set_cons_succ]
                have a0 := N18x.out.c0; have a1 := N18x.out.c1; have a2 := N18x.out.c2; have a3 := N18x.out.c3; have a4 := N18x.out.c4; have a5 := N18x.out.c5
                have b0 := N18x.out.f 0 (by omega); have b1 := N18x.out.f 1 (by omega); have b2 := N18x.out.f 2 (by omega); have b3 := N18x.out.f 3 (by omega); have b4 := N18x.out.f 4 (by omega); have b5 := N18x.out.f 5 (by omega)
                refine wpAnyT_one (i := 9) rfl (by kernel_rfl) (by rfl) (fun K hK => ?_)
                go_simp
                refine hK.out _ _ (fun _ => L18x.out.grown (six_own _ v10.heap.size _ _ _ _ _ _) (by simp; omega)) ?_
                clear hK K
                try simp only [Act.put, List.setIfInBounds_toArray, List.set_cons_zero, List.set_cons_succ]
                refine wpAnyT_done (by kernel_rfl) ?_ _
                exact ⟨_, by simp only [Act.put, List.setIfInBounds_toArray, List.set_cons_zero, List.set_cons_succ], S18x.out.six (by omega) _ _ _ _ _ _, ⟨N18x.out.six kind u.text 0 t.line t.col (.slice none 0 0), Build.nil _ _⟩, by omega, L18x.out.grown (six_own _ v10.heap.size _ _ _ _ _ _) (by simp; omega)⟩
            · go_simp
              have S20a := Lib.hid (S7x.out.alloc zero6)
              have L20a := Lib.hid (L7x.out.below ((Below.refl _ _).alloc (Nat.le_refl _) zero6))
              have N20a := Lib.hid (LNode.new [] [] 0 0 0 (.slice none 0 0) v7)
              have hNs20 := N20a.out.lt
              have hlt20 := S7x.out.lt
              unfold zero6 at *
              refine hK.out _ _ (fun _ => L20a.out) ?_
              clear hK K
              try simp only [Act.put, List.setIfInBounds_toArray, List.set_cons_zero, List.set_cons_succ]
              refine wpAnyT_one (i := 5) rfl (by kernel_rfl) (by rfl) (fun K hK => ?_)
              go_simp
              refine (take_yes B u rr d _ S20a.out.ps hteu).mono ?_
              rintro e v22 ⟨rfl, hP, hg⟩
              have S22x := Lib.hid (S20a.out.call hP hg)
              have L22x := Lib.hid (L20a.out.grown hg (by simp; omega))
              have N22x := Lib.hid (N20a.out.grown hg (by simp; omega))
              have hNs22 := N22x.out.lt
              have hss22 := S22x.out.lt
              have hll22 := L22x.out.lt
              unfold tokW tokV
              refine hK.out _ _ (fun _ => L22x.out) ?_
              clear hK K
              try simp only [Act.put, List.setIfInBounds_toArray, List.set_cons_zero, List.set_cons_succ]
              refine wpAnyT_take (i := 6) (d := 24) (v := .string ⟨u.text.toArray⟩) rfl rfl (by kernel_rfl) (fun _ _ _ h => h) (by rfl) ?y23 L22x.out ?_
              case y23 => intro w' hw'; go_simp
              try simp only [Act.put, List.setIfInBounds_toArray, List.set_cons_zero, List.set_cons_succ]
              refine wpAnyT_one (i := 7) rfl (by kernel_rfl) (by rfl) (fun K hK => ?_)
              go_simp
              have HN := node_any t ⟨kind.toArray⟩ ⟨(u.text).toArray⟩
              unfold tokW tokV at HN
              refine (HN _).mono ?_
              rintro e v25 ⟨rfl, hb⟩
              have S25x := Lib.hid (S22x.out.below hb)
              have L25x := Lib.hid (L22x.out.below hb)
              have N25x := Lib.hid (N22x.out.below hb)
              have hNs25 := N25x.out.lt
              have hss25 := S25x.out.lt
              have hll25 := L25x.out.lt
              refine hK.out _ _ (fun _ => L25x.out) ?_
              clear hK K
              try simp only [Act.put, List.setIfInBounds_toArray, List.set_cons_zero, List.set_cons_succ]
              have a0 := N25x.out.c0; have a1 := N25x.out.c1; have a2 := N25x.out.c2; have a3 := N25x.out.c3; have a4 := N25x.out.c4; have a5 := N25x.out.c5
              have b0 := N25x.out.f 0 (by omega); have b1 := N25x.out.f 1 (by omega); have b2 := N25x.out.f 2 (by omega); have b3 := N25x.out.f 3 (by omega); have b4 := N25x.out.f 4 (by omega); have b5 := N25x.out.f 5 (by omega)
              refine wpAnyT_one (i := 9) rfl (by kernel_rfl) (by rfl) (fun K hK => ?_)
              go_simp
              refine hK.out _ _ (fun _ => L25x.out.grown (six_own _ v7.heap.size _ _ _ _ _ _) (by simp; omega)) ?_
              clear hK K
              try simp only [Act.put, List.setIfInBounds_toArray, List.set_cons_zero, List.set_cons_succ]
              refine wpAnyT_done (by kernel_rfl) ?_ _
              exact ⟨_, by simp only [Act.put, List.setIfInBounds_toArray, List.set_cons_zero, List.set_cons_succ], S25x.out.six (by omega) _ _ _ _ _ _, ⟨N25x.out.six kind u.text 0 t.line t.col (.slice none 0 0), Build.nil _ _⟩, by omega, L25x.out.grown (six_own _ v7.heap.size _ _ _ _ _ _) (by simp; omega)⟩
          · go_simp
            have S27a := Lib.hid (SS.out.alloc zero6)
            have L27a := Lib.hid (LL.out.below ((Below.refl _ _).alloc (Nat.le_refl _) zero6))
            have N27a := Lib.hid (LNode.new [] [] 0 0 0 (.slice none 0 0) wd)
            have hNs27 := N27a.out.lt
            have hlt27 := SS.out.lt
            unfold zero6 at *
            refine hK.out _ _ (fun _ => L27a.out) ?_
            clear hK K
            try simp only [Act.put, List.setIfInBounds_toArray, List.set_cons_zero, List.set_cons_succ]
            refine wpAnyT_one (i := 4) rfl (by kernel_rfl) (by rfl) (fun K hK => ?_)
            go_simp
            refine (HNM.out _ S27a.out.ps).mono ?_
            rintro e v29 ⟨rfl, hb⟩
            have S29x := Lib.hid (S27a.out.below hb)
            have L29x := Lib.hid (L27a.out.below hb)
            have N29x := Lib.hid (N27a.out.below hb)
            have hNs29 := N29x.out.lt
            have hss29 := S29x.out.lt
            have hll29 := L29x.out.lt
            refine hK.out _ _ (fun _ => L29x.out) ?_
            clear hK K
            try simp only [Act.put, List.setIfInBounds_toArray, List.set_cons_zero, List.set_cons_succ]
            refine wpAnyT_one (i := 5) rfl (by kernel_rfl) (by rfl) (fun K hK => ?_)
            go_simp
            refine (take_yes B u rr d _ S29x.out.ps hteu).mono ?_
            rintro e v31 ⟨rfl, hP, hg⟩
            have S31x := Lib.hid (S29x.out.call hP hg)
            have L31x := Lib.hid (L29x.out.grown hg (by simp; omega))
            have N31x := Lib.hid (N29x.out.grown hg (by simp; omega))
            have hNs31 := N31x.out.lt
            have hss31 := S31x.out.lt
            have hll31 := L31x.out.lt
            unfold tokW tokV
            refine hK.out _ _ (fun _ => L31x.out) ?_
            clear hK K
            try simp only [Act.put, List.setIfInBounds_toArray, List.set_cons_zero, List.set_cons_succ]
            refine wpAnyT_take (i := 6) (d := 24) (v := .string ⟨u.text.toArray⟩) rfl rfl (by kernel_rfl) (fun _ _ _ h => h) (by rfl) ?y32 L31x.out ?_
            case y32 => intro w' hw'; go_simp
            try simp only [Act.put, List.setIfInBounds_toArray, List.set_cons_zero, List.set_cons_succ]
            refine wpAnyT_one (i := 7) rfl (by kernel_rfl) (by rfl) (fun K hK => ?_)
            go_simp
            have HN := node_any t ⟨kind.toArray⟩ ⟨(u.text).toArray⟩
            unfold tokW tokV at HN
            refine (HN _).mono ?_
            rintro e v34 ⟨rfl, hb⟩
            have S34x := Lib.hid (S31x.out.below hb)
            have L34x := Lib.hid (L31x.out.below hb)
            have N34x := Lib.hid (N31x.out.below hb)
            have hNs34 := N34x.out.lt
            have hss34 := S34x.out.lt
            have hll34 := L34x.out.lt
            refine hK.out _ _ (fun _ => L34x.out) ?_
            clear hK K
            try simp only [Act.put, List.setIfInBounds_toArray, List.set_cons_zero, List.set_cons_succ]
            have a0 := N34x.out.c0; have a1 := N34x.out.c1; have a2 := N34x.out.c2; have a3 := N34x.out.c3; have a4 := N34x.out.c4; have a5 := N34x.out.c5
            have b0 := N34x.out.f 0 (by omega); have b1 := N34x.out.f 1 (by omega); have b2 := N34x.out.f 2 (by omega); have b3 := N34x.out.f 3 (by omega); have b4 := N34x.out.f 4 (by omega); have b5 := N34x.out.f 5 (by omega)
            refine wpAnyT_one (i := 9) rfl (by kernel_rfl) (by rfl) (fun K hK => ?_)
            go_simp
            refine hK.out _ _ (fun _ => L34x.out.grown (six_own _ wd.heap.size _ _ _ _ _ _) (by simp; omega)) ?_
            clear hK K
            try simp only [Act.put, List.setIfInBounds_toArray, List.set_cons_zero, List.set_cons_succ]
            refine wpAnyT_done (by kernel_rfl) ?_ _
            exact ⟨_, by simp only [Act.put, List.setIfInBounds_toArray, List.set_cons_zero, List.set_cons_succ], S34x.out.six (by omega) _ _ _ _ _ _, ⟨N34x.out.six kind u.text 0 t.line t.col (.slice none 0 0), Build.nil _ _⟩, by omega, L34x.out.grown (six_own _ wd.heap.size _ _ _ _ _ _) (by simp; omega)⟩
        intro N w5 ⟨hS5, hN5, hwN, hL5⟩
        try simp only [Act.put, List.setIfInBounds_toArray, List.set_cons_zero, List.set_cons_succ]
        have S5 := Lib.hid hS5
        have N5 := Lib.hid hN5
        have l0 := hL5.c0
        have l1 := hL5.c1
        have l2' := hL5.c2
        have l3' := hL5.c3
        have l4' := hL5.c4
        clear hS5 hN5 hL5 S4 L4
        have H := Lib.hid (node_any t ⟨kType.toArray⟩ ⟨t.text.toArray⟩)
        go_wp2_with fail
        refine (H.out _).mono ?_
        rintro e w21 ⟨rfl, hb21⟩
        have S21 := Lib.hid (S5.out.below hb21)
        have N21 := Lib.hid (N5.out.below hb21)
        clear S5 N5
        clear H hb21
        have hff := kid_fin (t := .mk kType t.text 0 t.line t.col []) S21.out N21.out.nd hwN (Build.nil _ w21.heap.size) (Nat.succ_le_of_lt N21.out.lt) (Nat.le_refl _)
        have HFF := Lib.hid hff
        have SC := S21.out
        have NC := N21.out
        have hs1 := SC.lt
        have hs2 := NC.lt
        have hf5 := NC.nd.f 5 (by omega)
        have hr := SC.res
        have r0 := hr.c0; have r1' := hr.c1; have r2 := hr.c2; have r3 := hr.c3; have r4 := hr.c4; have r5 := hr.c5
        have g0 := hr.f 0 (by omega); have g1 := hr.f 1 (by omega); have g2 := hr.f 2 (by omega); have g3 := hr.f 3 (by omega); have g4 := hr.f 4 (by omega); have g5 := hr.f 5 (by omega)
        clear hr
        have hq := NC.nd
        have qn0 := hq.c0; have qn1 := hq.c1; have qn2 := hq.c2; have qn3 := hq.c3; have qn4 := hq.c4; have qn5 := hq.c5
        clear hq
        clear hff S21 N21 SC NC l0 l1 l2' l3' l4'
        go_wp2
        refine bodyPost_ret (v := nodeV (.mk kind u.text 0 t.line t.col [.mk kType t.text 0 t.line t.col []]) (.slice (some ⟨w21.heap.size, 0, none⟩) 1 1)) (by simp [results, Tryz.results92, go_sem, nodeV, Tree.kind, Tree.text, Tree.num, Tree.line, Tree.col, Tree.kids, kProgram, kGlobal, kFunc, kParam, kType, kNum, kBlock, kLocal, kIf, kElse, kWhile, kReturn, kAssert, kAssume, kAssign, kNondet, kResult, kCall, kName, kIndex, kBinary, kUnary, kCast, kTrue, kFalse, kVoid, *]) rfl ?_
        have hgood : (declaredP kind false) (t :: u :: rr) = .ok (.mk kind u.text 0 t.line t.col [.mk kType t.text 0 t.line t.col []]) rr := by simp only [Bool.false_eq_true, if_false, if_true, reduceIte, Bool.not_false, Bool.not_true, Bool.false_or, Bool.true_or, Bool.or_false, Bool.or_true, Bool.and_true, Bool.and_false, Bool.false_and, Bool.true_and, List.nil_append, List.cons_append, List.append_nil, declaredP, takeP, hf1, hn, PR.bind, hdT_cons]
        rw [hgood]
        exact HFF.out.1.finA (by simpa using hs1) (HFF.out.2.bd.mono (by omega)) _ _ _ _ _ _
  case true =>
    have hte : t.text ≠ [] := hvt hv
    clear hvt
    have H := Lib.hid (take_yes B t r d _ S0.out.ps hte)
    go_wp2_with fail
    refine (H.out).mono ?_
    rintro e w1 ⟨rfl, hP1, hg1⟩
    have S1 := Lib.hid (S0.out.call hP1 hg1)
    clear S0
    clear H hP1 hg1
    unfold tokW tokV at *
    have hwT : w.heap.size < w1.heap.size := S1.out.lt
    have L2 := Lib.hid (LTok.newO t w1)
    have S2 := Lib.hid (S1.out.alloc (tokO t))
    clear S1
    unfold tokO at *
    obtain ⟨u, rr, hlu⟩ := S2.out.ps.ends.ne
    subst hlu
    cases hn : (nameB u)
    case false =>
      go_wp2_with fail
      refine wp_pan [{ v := faultV u.line u.col 30, recovered := false }] (fun w' => w.grownBy w' (some B)) ?_ ?_
      · refine wp_region_T (S := fun w' => LTok w1.heap.size t w') (tail := fun _ => false) (by kernel_rfl) ?_
        change wpAnyT _ _ _ _ _ _ _ _ _ (World.drew _)
        have SS := Lib.hid S2.out.drew
        have LL := Lib.hid (L2.out.below (Below.refl _ _).drew)
        generalize World.drew _ = wd at *
        refine wpAnyT_take (i := 0) (d := 18) (v := .agg #[.int .i64 t.kind, .string ⟨t.text.toArray⟩, .int .u64 t.num, .int .i64 t.line, .int .i64 t.col]) rfl rfl (by kernel_rfl) (fun _ _ _ h => h) (by rfl) ?y1 LL.out ?_
        case y1 => intro w' hw'; have h0 := hw'.c0; have h1 := hw'.c1; have h2 := hw'.c2; have h3 := hw'.c3; have h4 := hw'.c4; go_simp
        try simp only [Act.put, List.setIfInBounds_toArray, List.set_cons_zero, List.set_cons_succ]
        refine wpAnyT_take (i := 1) (d := 19) (v := .string ⟨kind.toArray⟩) rfl rfl (by kernel_rfl) (fun _ _ _ h => h) (by rfl) ?y2 LL.out ?_
        case y2 => intro w' hw'; go_simp
        try simp only [Act.put, List.setIfInBounds_toArray, List.set_cons_zero, List.set_cons_succ]
        refine wpAnyT_take (i := 2) (d := 20) (v := .pointer (some ⟨B, 0, none⟩)) rfl rfl (by kernel_rfl) (fun _ _ _ h => h) (by rfl) ?y3 LL.out ?_
        case y3 => intro w' hw'; go_simp
        try simp only [Act.put, List.setIfInBounds_toArray, List.set_cons_zero, List.set_cons_succ]
        refine wpAnyT_take (i := 3) (d := 21) (v := .pointer (some ⟨B, 0, none⟩)) rfl rfl (by kernel_rfl) (fun _ _ _ h => h) (by rfl) ?y4 LL.out ?_
        case y4 => intro w' hw'; go_simp
        try simp only [Act.put, List.setIfInBounds_toArray, List.set_cons_zero, List.set_cons_succ]
        refine wpAnyT_two (i := 4) (j := 8) rfl rfl (by kernel_rfl) (by rfl) (by rfl) (fun K hK => ?_) (fun K hK => ?_)
        · go_simp
          have HN51 := atName_any B u rr d _ SS.out.ps
          rw [hn] at HN51
          refine HN51.mono ?_
          rintro e v51 ⟨rfl, hb51⟩
          have S51p := Lib.hid (SS.out.below hb51)
          have L51p := Lib.hid (LL.out.below hb51)
          refine hK.out _ _ (fun _ => L51p.out) ?_
          clear hK K
          try simp only [Act.put, List.setIfInBounds_toArray, List.set_cons_zero, List.set_cons_succ]
          refine wpAnyT_two (i := 5) (j := 8) rfl rfl (by kernel_rfl) (by rfl) (by rfl) (fun K hK => ?_) (fun K hK => ?_)
          · go_simp
            refine (take_no B u rr d _ S51p.out.ps).mono ?_
            rintro e v9 ⟨rfl, hg⟩
            exact ⟨rfl, rfl, grown_trans S51p.out.gr hg⟩
          · go_simp
            have S52a := Lib.hid (S51p.out.alloc zero6)
            have L52a := Lib.hid (L51p.out.below ((Below.refl _ _).alloc (Nat.le_refl _) zero6))
            unfold zero6 at *
            refine hK.out _ _ (fun _ => L52a.out) ?_
            clear hK K
            try simp only [Act.put, List.setIfInBounds_toArray, List.set_cons_zero, List.set_cons_succ]
            refine wpAnyT_one (i := 5) rfl (by kernel_rfl) (by rfl) (fun K hK => ?_)
            go_simp
            refine (take_no B u rr d _ S52a.out.ps).mono ?_
            rintro e v9 ⟨rfl, hg⟩
            exact ⟨rfl, rfl, grown_trans S52a.out.gr hg⟩
        · go_simp
          have S53a := Lib.hid (SS.out.alloc zero6)
          have L53a := Lib.hid (LL.out.below ((Below.refl _ _).alloc (Nat.le_refl _) zero6))
          unfold zero6 at *
          refine hK.out _ _ (fun _ => L53a.out) ?_
          clear hK K
          try simp only [Act.put, List.setIfInBounds_toArray, List.set_cons_zero, List.set_cons_succ]
          refine wpAnyT_one (i := 4) rfl (by kernel_rfl) (by rfl) (fun K hK => ?_)
          go_simp
          have HN54 := atName_any B u rr d _ S53a.out.ps
          rw [hn] at HN54
          refine HN54.mono ?_
          rintro e v54 ⟨rfl, hb54⟩
          have S54p := Lib.hid (S53a.out.below hb54)
          have L54p := Lib.hid (L53a.out.below hb54)
          refine hK.out _ _ (fun _ => L54p.out) ?_
          clear hK K
          try simp only [Act.put, List.setIfInBounds_toArray, List.set_cons_zero, List.set_cons_succ]
          refine wpAnyT_one (i := 5) rfl (by kernel_rfl) (by rfl) (fun K hK => ?_)
          go_simp
          refine (take_no B u rr d _ S54p.out.ps).mono ?_
          rintro e v9 ⟨rfl, hg⟩
          exact ⟨rfl, rfl, grown_trans S54p.out.gr hg⟩
      intro a' w' hd' hg'
      refine ⟨hd', ?_⟩
      have hbad : (declaredP kind true) (t :: u :: rr) = .bad u.line u.col 30 := by simp only [Bool.false_eq_true, if_false, if_true, reduceIte, Bool.not_false, Bool.not_true, Bool.false_or, Bool.true_or, Bool.or_false, Bool.or_true, Bool.and_true, Bool.and_false, Bool.false_and, Bool.true_and, List.nil_append, List.cons_append, List.append_nil, declaredP, takeP, hn, PR.bind, hdT_cons]
      rw [hbad]
      exact ⟨rfl, hg'⟩
    case true =>
      have hteu : u.text ≠ [] := kind_text S2.out.ps.ends (by simp [nameB] at hn; omega)
      go_wp2_with fail
      have hname : ∀ (W : World), PsAt B (u :: rr) d W → Calls Tryz.prog 106 #[.pointer (some ⟨B, 0, none⟩)] W fun e w' => e = .returned (.bool true) ∧ Below W.heap.size W w' := fun W h => by have := atName_any B u rr d W h; rw [hn] at this; exact this
      have HNM := Lib.hid hname
      clear hname
      refine wp_cut (fun a N => ((((((((a.put (some 18) (.agg #[.int .i64 t.kind, .string ⟨t.text.toArray⟩, .int .u64 t.num, .int .i64 t.line, .int .i64 t.col])).put (some 19) (.string ⟨kind.toArray⟩)).put (some 20) (.pointer (some ⟨B, 0, none⟩))).put (some 21) (.pointer (some ⟨B, 0, none⟩))).put (some 22) (.bool true)).put (some 23) (.agg #[.int .i64 u.kind, .string ⟨u.text.toArray⟩, .int .u64 u.num, .int .i64 u.line, .int .i64 u.col])).put (some 24) (.string ⟨u.text.toArray⟩)).put (some 25) (.agg #[.string ⟨kind.toArray⟩, .string ⟨u.text.toArray⟩, .int .u64 0, .int .i64 t.line, .int .i64 t.col, .slice none 0 0])).put (some 8) (.pointer (some ⟨N, 0, none⟩))) (fun N w' => St w B rr d w' ∧ Nd N kind u.text 0 t.line t.col (.slice none 0 0) [] w' ∧ w.heap.size < N ∧ LTok w1.heap.size t w') ?_ ?_
      · refine wp_region_T (S := fun w' => LTok w1.heap.size t w') (tail := fun _ => false) (by kernel_rfl) ?_
        change wpAnyT _ _ _ _ _ _ _ _ _ (World.drew _)
        have SS := Lib.hid S2.out.drew
        have LL := Lib.hid (L2.out.below (Below.refl _ _).drew)
        generalize World.drew _ = wd at *
        have hwd := SS.out.lt
        have hwl := LL.out.lt
        refine wpAnyT_take (i := 0) (d := 18) (v := .agg #[.int .i64 t.kind, .string ⟨t.text.toArray⟩, .int .u64 t.num, .int .i64 t.line, .int .i64 t.col]) rfl rfl (by kernel_rfl) (fun _ _ _ h => h) (by rfl) ?y1 LL.out ?_
        case y1 => intro w' hw'; have h0 := hw'.c0; have h1 := hw'.c1; have h2 := hw'.c2; have h3 := hw'.c3; have h4 := hw'.c4; go_simp
        try simp only [Act.put, List.setIfInBounds_toArray, List.set_cons_zero, List.set_cons_succ]
        refine wpAnyT_take (i := 1) (d := 19) (v := .string ⟨kind.toArray⟩) rfl rfl (by kernel_rfl) (fun _ _ _ h => h) (by rfl) ?y2 LL.out ?_
        case y2 => intro w' hw'; go_simp
        try simp only [Act.put, List.setIfInBounds_toArray, List.set_cons_zero, List.set_cons_succ]
        refine wpAnyT_take (i := 2) (d := 20) (v := .pointer (some ⟨B, 0, none⟩)) rfl rfl (by kernel_rfl) (fun _ _ _ h => h) (by rfl) ?y3 LL.out ?_
        case y3 => intro w' hw'; go_simp
        try simp only [Act.put, List.setIfInBounds_toArray, List.set_cons_zero, List.set_cons_succ]
        refine wpAnyT_take (i := 3) (d := 21) (v := .pointer (some ⟨B, 0, none⟩)) rfl rfl (by kernel_rfl) (fun _ _ _ h => h) (by rfl) ?y4 LL.out ?_
        case y4 => intro w' hw'; go_simp
        try simp only [Act.put, List.setIfInBounds_toArray, List.set_cons_zero, List.set_cons_succ]
        refine wpAnyT_two (i := 4) (j := 8) rfl rfl (by kernel_rfl) (by rfl) (by rfl) (fun K hK => ?_) (fun K hK => ?_)
        · go_simp
          refine (HNM.out _ SS.out.ps).mono ?_
          rintro e v7 ⟨rfl, hb⟩
          have S7x := Lib.hid (SS.out.below hb)
          have L7x := Lib.hid (LL.out.below hb)
          have hss7 := S7x.out.lt
          have hll7 := L7x.out.lt
          refine hK.out _ _ (fun _ => L7x.out) ?_
          clear hK K
          try simp only [Act.put, List.setIfInBounds_toArray, List.set_cons_zero, List.set_cons_succ]
          refine wpAnyT_two (i := 5) (j := 8) rfl rfl (by kernel_rfl) (by rfl) (by rfl) (fun K hK => ?_) (fun K hK => ?_)
          · go_simp
            refine (take_yes B u rr d _ S7x.out.ps hteu).mono ?_
            rintro e v10 ⟨rfl, hP, hg⟩
            have S10x := Lib.hid (S7x.out.call hP hg)
            have L10x := Lib.hid (L7x.out.grown hg (by simp; omega))
            have hss10 := S10x.out.lt
            have hll10 := L10x.out.lt
            unfold tokW tokV
            refine hK.out _ _ (fun _ => L10x.out) ?_
            clear hK K
            try simp only [Act.put, List.setIfInBounds_toArray, List.set_cons_zero, List.set_cons_succ]
            refine wpAnyT_take (i := 6) (d := 24) (v := .string ⟨u.text.toArray⟩) rfl rfl (by kernel_rfl) (fun _ _ _ h => h) (by rfl) ?y11 L10x.out ?_
            case y11 => intro w' hw'; go_simp
            try simp only [Act.put, List.setIfInBounds_toArray, List.set_cons_zero, List.set_cons_succ]
            refine wpAnyT_two (i := 7) (j := 8) rfl rfl (by kernel_rfl) (by rfl) (by rfl) (fun K hK => ?_) (fun K hK => ?_)
            · go_simp
              have HN := node_any t ⟨kind.toArray⟩ ⟨(u.text).toArray⟩
              unfold tokW tokV at HN
              refine (HN _).mono ?_
              rintro e v14 ⟨rfl, hb⟩
              have S14x := Lib.hid (S10x.out.below hb)
              have L14x := Lib.hid (L10x.out.below hb)
              have hss14 := S14x.out.lt
              have hll14 := L14x.out.lt
              refine hK.out _ _ (fun _ => L14x.out) ?_
              clear hK K
              try simp only [Act.put, List.setIfInBounds_toArray, List.set_cons_zero, List.set_cons_succ]
              refine wpAnyT_one (i := 8) rfl (by kernel_rfl) (by rfl) (fun K hK => ?_)
              go_simp
              refine hK.out _ _ (fun _ => L14x.out.below ((Below.refl _ _).alloc (Nat.le_refl _) _)) ?_
              clear hK K
              try simp only [Act.put, List.setIfInBounds_toArray, List.set_cons_zero, List.set_cons_succ]
              refine wpAnyT_one (i := 9) rfl (by kernel_rfl) (by rfl) (fun K hK => ?_)
              go_simp
              refine hK.out _ _ (fun _ => L14x.out.below ((Below.refl _ _).alloc (Nat.le_refl _) _)) ?_
              clear hK K
              try simp only [Act.put, List.setIfInBounds_toArray, List.set_cons_zero, List.set_cons_succ]
              refine wpAnyT_done (by kernel_rfl) ?_ _
              exact ⟨_, by simp only [Act.put, List.setIfInBounds_toArray, List.set_cons_zero, List.set_cons_succ], S14x.out.alloc _, Nd.new kind u.text 0 t.line t.col _, S14x.out.lt, L14x.out.below ((Below.refl _ _).alloc (Nat.le_refl _) _)⟩
            · go_simp
              have S16a := Lib.hid (S10x.out.alloc zero6)
              have L16a := Lib.hid (L10x.out.below ((Below.refl _ _).alloc (Nat.le_refl _) zero6))
              have N16a := Lib.hid (LNode.new [] [] 0 0 0 (.slice none 0 0) v10)
              have hNs16 := N16a.out.lt
              have hlt16 := S10x.out.lt
              unfold zero6 at *
              refine hK.out _ _ (fun _ => L16a.out) ?_
              clear hK K
              try simp only [Act.put, List.setIfInBounds_toArray, List.set_cons_zero, List.set_cons_succ]
              refine wpAnyT_one (i := 7) rfl (by kernel_rfl) (by rfl) (fun K hK => ?_)
              go_simp
              have HN := node_any t ⟨kind.toArray⟩ ⟨(u.text).toArray⟩
              unfold tokW tokV at HN
              refine (HN _).mono ?_
              rintro e v18 ⟨rfl, hb⟩
              have S18x := Lib.hid (S16a.out.below hb)
              have L18x := Lib.hid (L16a.out.below hb)
              have N18x := Lib.hid (N16a.out.below hb)
              have hNs18 := N18x.out.lt
              have hss18 := S18x.out.lt
              have hll18 := L18x.out.lt
              refine hK.out _ _ (fun _ => L18x.out) ?_
              clear hK K
              try simp only [Act.put, List.setIfInBounds_toArray, List.set_cons_zero, List.set_cons_succ]
              have a0 := N18x.out.c0; have a1 := N18x.out.c1; have a2 := N18x.out.c2; have a3 := N18x.out.c3; have a4 := N18x.out.c4; have a5 := N18x.out.c5
              have b0 := N18x.out.f 0 (by omega); have b1 := N18x.out.f 1 (by omega); have b2 := N18x.out.f 2 (by omega); have b3 := N18x.out.f 3 (by omega); have b4 := N18x.out.f 4 (by omega); have b5 := N18x.out.f 5 (by omega)
              refine wpAnyT_one (i := 9) rfl (by kernel_rfl) (by rfl) (fun K hK => ?_)
              go_simp
              refine hK.out _ _ (fun _ => L18x.out.grown (six_own _ v10.heap.size _ _ _ _ _ _) (by simp; omega)) ?_
              clear hK K
              try simp only [Act.put, List.setIfInBounds_toArray, List.set_cons_zero, List.set_cons_succ]
              refine wpAnyT_done (by kernel_rfl) ?_ _
              exact ⟨_, by simp only [Act.put, List.setIfInBounds_toArray, List.set_cons_zero, List.set_cons_succ], S18x.out.six (by omega) _ _ _ _ _ _, ⟨N18x.out.six kind u.text 0 t.line t.col (.slice none 0 0), Build.nil _ _⟩, by omega, L18x.out.grown (six_own _ v10.heap.size _ _ _ _ _ _) (by simp; omega)⟩
          · go_simp
            have S20a := Lib.hid (S7x.out.alloc zero6)
            have L20a := Lib.hid (L7x.out.below ((Below.refl _ _).alloc (Nat.le_refl _) zero6))
            have N20a := Lib.hid (LNode.new [] [] 0 0 0 (.slice none 0 0) v7)
            have hNs20 := N20a.out.lt
            have hlt20 := S7x.out.lt
            unfold zero6 at *
            refine hK.out _ _ (fun _ => L20a.out) ?_
            clear hK K
            try simp only [Act.put, List.setIfInBounds_toArray, List.set_cons_zero, List.set_cons_succ]
            refine wpAnyT_one (i := 5) rfl (by kernel_rfl) (by rfl) (fun K hK => ?_)
            go_simp
            refine (take_yes B u rr d _ S20a.out.ps hteu).mono ?_
            rintro e v22 ⟨rfl, hP, hg⟩
            have S22x := Lib.hid (S20a.out.call hP hg)
            have L22x := Lib.hid (L20a.out.grown hg (by simp; omega))
            have N22x := Lib.hid (N20a.out.grown hg (by simp; omega))
            have hNs22 := N22x.out.lt
            have hss22 := S22x.out.lt
            have hll22 := L22x.out.lt
            unfold tokW tokV
            refine hK.out _ _ (fun _ => L22x.out) ?_
            clear hK K
            try simp only [Act.put, List.setIfInBounds_toArray, List.set_cons_zero, List.set_cons_succ]
            refine wpAnyT_take (i := 6) (d := 24) (v := .string ⟨u.text.toArray⟩) rfl rfl (by kernel_rfl) (fun _ _ _ h => h) (by rfl) ?y23 L22x.out ?_
            case y23 => intro w' hw'; go_simp
            try simp only [Act.put, List.setIfInBounds_toArray, List.set_cons_zero, List.set_cons_succ]
            refine wpAnyT_one (i := 7) rfl (by kernel_rfl) (by rfl) (fun K hK => ?_)
            go_simp
            have HN := node_any t ⟨kind.toArray⟩ ⟨(u.text).toArray⟩
            unfold tokW tokV at HN
            refine (HN _).mono ?_
            rintro e v25 ⟨rfl, hb⟩
            have S25x := Lib.hid (S22x.out.below hb)
            have L25x := Lib.hid (L22x.out.below hb)
            have N25x := Lib.hid (N22x.out.below hb)
            have hNs25 := N25x.out.lt
            have hss25 := S25x.out.lt
            have hll25 := L25x.out.lt
            refine hK.out _ _ (fun _ => L25x.out) ?_
            clear hK K
            try simp only [Act.put, List.setIfInBounds_toArray, List.set_cons_zero, List.set_cons_succ]
            have a0 := N25x.out.c0; have a1 := N25x.out.c1; have a2 := N25x.out.c2; have a3 := N25x.out.c3; have a4 := N25x.out.c4; have a5 := N25x.out.c5
            have b0 := N25x.out.f 0 (by omega); have b1 := N25x.out.f 1 (by omega); have b2 := N25x.out.f 2 (by omega); have b3 := N25x.out.f 3 (by omega); have b4 := N25x.out.f 4 (by omega); have b5 := N25x.out.f 5 (by omega)
            refine wpAnyT_one (i := 9) rfl (by kernel_rfl) (by rfl) (fun K hK => ?_)
            go_simp
            refine hK.out _ _ (fun _ => L25x.out.grown (six_own _ v7.heap.size _ _ _ _ _ _) (by simp; omega)) ?_
            clear hK K
            try simp only [Act.put, List.setIfInBounds_toArray, List.set_cons_zero, List.set_cons_succ]
            refine wpAnyT_done (by kernel_rfl) ?_ _
            exact ⟨_, by simp only [Act.put, List.setIfInBounds_toArray, List.set_cons_zero, List.set_cons_succ], S25x.out.six (by omega) _ _ _ _ _ _, ⟨N25x.out.six kind u.text 0 t.line t.col (.slice none 0 0), Build.nil _ _⟩, by omega, L25x.out.grown (six_own _ v7.heap.size _ _ _ _ _ _) (by simp; omega)⟩
        · go_simp
          have S27a := Lib.hid (SS.out.alloc zero6)
          have L27a := Lib.hid (LL.out.below ((Below.refl _ _).alloc (Nat.le_refl _) zero6))
          have N27a := Lib.hid (LNode.new [] [] 0 0 0 (.slice none 0 0) wd)
          have hNs27 := N27a.out.lt
          have hlt27 := SS.out.lt
          unfold zero6 at *
          refine hK.out _ _ (fun _ => L27a.out) ?_
          clear hK K
          try simp only [Act.put, List.setIfInBounds_toArray, List.set_cons_zero, List.set_cons_succ]
          refine wpAnyT_one (i := 4) rfl (by kernel_rfl) (by rfl) (fun K hK => ?_)
          go_simp
          refine (HNM.out _ S27a.out.ps).mono ?_
          rintro e v29 ⟨rfl, hb⟩
          have S29x := Lib.hid (S27a.out.below hb)
          have L29x := Lib.hid (L27a.out.below hb)
          have N29x := Lib.hid (N27a.out.below hb)
          have hNs29 := N29x.out.lt
          have hss29 := S29x.out.lt
          have hll29 := L29x.out.lt
          refine hK.out _ _ (fun _ => L29x.out) ?_
          clear hK K
          try simp only [Act.put, List.setIfInBounds_toArray, List.set_cons_zero, List.set_cons_succ]
          refine wpAnyT_one (i := 5) rfl (by kernel_rfl) (by rfl) (fun K hK => ?_)
          go_simp
          refine (take_yes B u rr d _ S29x.out.ps hteu).mono ?_
          rintro e v31 ⟨rfl, hP, hg⟩
          have S31x := Lib.hid (S29x.out.call hP hg)
          have L31x := Lib.hid (L29x.out.grown hg (by simp; omega))
          have N31x := Lib.hid (N29x.out.grown hg (by simp; omega))
          have hNs31 := N31x.out.lt
          have hss31 := S31x.out.lt
          have hll31 := L31x.out.lt
          unfold tokW tokV
          refine hK.out _ _ (fun _ => L31x.out) ?_
          clear hK K
          try simp only [Act.put, List.setIfInBounds_toArray, List.set_cons_zero, List.set_cons_succ]
          refine wpAnyT_take (i := 6) (d := 24) (v := .string ⟨u.text.toArray⟩) rfl rfl (by kernel_rfl) (fun _ _ _ h => h) (by rfl) ?y32 L31x.out ?_
          case y32 => intro w' hw'; go_simp
          try simp only [Act.put, List.setIfInBounds_toArray, List.set_cons_zero, List.set_cons_succ]
          refine wpAnyT_one (i := 7) rfl (by kernel_rfl) (by rfl) (fun K hK => ?_)
          go_simp
          have HN := node_any t ⟨kind.toArray⟩ ⟨(u.text).toArray⟩
          unfold tokW tokV at HN
          refine (HN _).mono ?_
          rintro e v34 ⟨rfl, hb⟩
          have S34x := Lib.hid (S31x.out.below hb)
          have L34x := Lib.hid (L31x.out.below hb)
          have N34x := Lib.hid (N31x.out.below hb)
          have hNs34 := N34x.out.lt
          have hss34 := S34x.out.lt
          have hll34 := L34x.out.lt
          refine hK.out _ _ (fun _ => L34x.out) ?_
          clear hK K
          try simp only [Act.put, List.setIfInBounds_toArray, List.set_cons_zero, List.set_cons_succ]
          have a0 := N34x.out.c0; have a1 := N34x.out.c1; have a2 := N34x.out.c2; have a3 := N34x.out.c3; have a4 := N34x.out.c4; have a5 := N34x.out.c5
          have b0 := N34x.out.f 0 (by omega); have b1 := N34x.out.f 1 (by omega); have b2 := N34x.out.f 2 (by omega); have b3 := N34x.out.f 3 (by omega); have b4 := N34x.out.f 4 (by omega); have b5 := N34x.out.f 5 (by omega)
          refine wpAnyT_one (i := 9) rfl (by kernel_rfl) (by rfl) (fun K hK => ?_)
          go_simp
          refine hK.out _ _ (fun _ => L34x.out.grown (six_own _ wd.heap.size _ _ _ _ _ _) (by simp; omega)) ?_
          clear hK K
          try simp only [Act.put, List.setIfInBounds_toArray, List.set_cons_zero, List.set_cons_succ]
          refine wpAnyT_done (by kernel_rfl) ?_ _
          exact ⟨_, by simp only [Act.put, List.setIfInBounds_toArray, List.set_cons_zero, List.set_cons_succ], S34x.out.six (by omega) _ _ _ _ _ _, ⟨N34x.out.six kind u.text 0 t.line t.col (.slice none 0 0), Build.nil _ _⟩, by omega, L34x.out.grown (six_own _ wd.heap.size _ _ _ _ _ _) (by simp; omega)⟩
      intro N w5 ⟨hS5, hN5, hwN, hL5⟩
      try simp only [Act.put, List.setIfInBounds_toArray, List.set_cons_zero, List.set_cons_succ]
      have S5 := Lib.hid hS5
      have N5 := Lib.hid hN5
      have l0 := hL5.c0
      have l1 := hL5.c1
      have l2' := hL5.c2
      have l3' := hL5.c3
      have l4' := hL5.c4
      clear hS5 hN5 hL5 S2 L2
      have H := Lib.hid (node_any t ⟨kType.toArray⟩ ⟨t.text.toArray⟩)
      go_wp2_with fail
      refine (H.out _).mono ?_
      rintro e w21 ⟨rfl, hb21⟩
      have S21 := Lib.hid (S5.out.below hb21)
      have N21 := Lib.hid (N5.out.below hb21)
      clear S5 N5
      clear H hb21
      have hff := kid_fin (t := .mk kType t.text 0 t.line t.col []) S21.out N21.out.nd hwN (Build.nil _ w21.heap.size) (Nat.succ_le_of_lt N21.out.lt) (Nat.le_refl _)
      have HFF := Lib.hid hff
      have SC := S21.out
      have NC := N21.out
      have hs1 := SC.lt
      have hs2 := NC.lt
      have hf5 := NC.nd.f 5 (by omega)
      have hr := SC.res
      have r0 := hr.c0; have r1' := hr.c1; have r2 := hr.c2; have r3 := hr.c3; have r4 := hr.c4; have r5 := hr.c5
      have g0 := hr.f 0 (by omega); have g1 := hr.f 1 (by omega); have g2 := hr.f 2 (by omega); have g3 := hr.f 3 (by omega); have g4 := hr.f 4 (by omega); have g5 := hr.f 5 (by omega)
      clear hr
      have hq := NC.nd
      have qn0 := hq.c0; have qn1 := hq.c1; have qn2 := hq.c2; have qn3 := hq.c3; have qn4 := hq.c4; have qn5 := hq.c5
      clear hq
      clear hff S21 N21 SC NC l0 l1 l2' l3' l4'
      go_wp2
      refine bodyPost_ret (v := nodeV (.mk kind u.text 0 t.line t.col [.mk kType t.text 0 t.line t.col []]) (.slice (some ⟨w21.heap.size, 0, none⟩) 1 1)) (by simp [results, Tryz.results92, go_sem, nodeV, Tree.kind, Tree.text, Tree.num, Tree.line, Tree.col, Tree.kids, kProgram, kGlobal, kFunc, kParam, kType, kNum, kBlock, kLocal, kIf, kElse, kWhile, kReturn, kAssert, kAssume, kAssign, kNondet, kResult, kCall, kName, kIndex, kBinary, kUnary, kCast, kTrue, kFalse, kVoid, *]) rfl ?_
      have hgood : (declaredP kind true) (t :: u :: rr) = .ok (.mk kind u.text 0 t.line t.col [.mk kType t.text 0 t.line t.col []]) rr := by simp only [Bool.false_eq_true, if_false, if_true, reduceIte, Bool.not_false, Bool.not_true, Bool.false_or, Bool.true_or, Bool.or_false, Bool.or_true, Bool.and_true, Bool.and_false, Bool.false_and, Bool.true_and, List.nil_append, List.cons_append, List.append_nil, declaredP, takeP, hn, PR.bind, hdT_cons]
      rw [hgood]
      exact HFF.out.1.finA (by simpa using hs1) (HFF.out.2.bd.mono (by omega)) _ _ _ _ _ _
end Go.Proofs.YtnalgnklgmoepaaGreatDoor
namespace Go.Proofs.YtnalgnklgmoepaaGreatDoor
open Go Go.RowKit

theorem enters96 : Enters 96 := fun args w => by simp [go_sem, Tryz.func96]
theorem enters94 : Enters 94 := fun args w => by simp [go_sem, Tryz.func94]
theorem enters135 : Enters 135 := fun args w => by simp [go_sem, Tryz.func135]
theorem enters146 : Enters 146 := fun args w => by simp [go_sem, Tryz.func146]
theorem enters150 : Enters 150 := fun args w => by simp [go_sem, Tryz.func150]
theorem enters119 : Enters 119 := fun args w => by simp [go_sem, Tryz.func119]
theorem enters120 : Enters 120 := fun args w => by simp [go_sem, Tryz.func120]
theorem enters121 : Enters 121 := fun args w => by simp [go_sem, Tryz.func121]
theorem enters122 : Enters 122 := fun args w => by simp [go_sem, Tryz.func122]
theorem enters123 : Enters 123 := fun args w => by simp [go_sem, Tryz.func123]
theorem enters124 : Enters 124 := fun args w => by simp [go_sem, Tryz.func124]
theorem entersStmt (x : List UInt8) : Enters (stmtF x) := by
  unfold stmtF
  split
  · exact enters119
  split
  · exact enters120
  split
  · exact enters121
  split
  · exact enters122
  split
  · exact enters123
  · exact enters124
theorem declared_any (kind : List UInt8) (d : Int) : Does 92 (fun p => #[p, .string ⟨kind.toArray⟩, .bool false]) d (declaredP kind false) := fun B l w h hno => declared_does kind false d B l w h (fun e => by cases e) hno
/-- All of the parser, at a fuel. -/
structure AllAt (n : Nat) (d : Int) : Prop where
  block : Does 96 (fun p => #[p]) d (runP n .block d)
  binary : ∀ k, 0 ≤ k → k ≤ 10 → Does 145 (fun p => #[p, .int .i64 k]) d (runP n (.binary k) d)
  operand : Does 150 (fun p => #[p]) d (runP n .operand d)
theorem stmt_does (rec : NT → Int → List Tok → PR Tree) (n : Nat) (d : Int) (hch : Does 119 (fun p => #[p]) d (choiceP rec d)) (hlo : Does 120 (fun p => #[p]) d (guardedP rec kWhile d)) (hle : Does 121 (fun p => #[p]) d (leaveP rec d))
    (hcl : ∀ (B : Nat) (l : List Tok) (w : World), PsAt B l d w → (hdT l).text ≠ [] → claimP rec d l ≠ .out → Calls Tryz.prog 122 #[.pointer (some ⟨B, 0, none⟩)] w (PPost B d w (claimP rec d l))) (hlc : Does 123 (fun p => #[p]) d localP) (hac : Does 124 (fun p => #[p]) d (actionP rec n d)) :
    ∀ (B : Nat) (l : List Tok) (w : World), PsAt B l d w → stmtP rec n d l ≠ .out → Calls Tryz.prog (stmtF (hdT l).text) #[.pointer (some ⟨B, 0, none⟩)] w (PPost B d w (stmtP rec n d l)) := by
  intro B l w h hno
  unfold stmtP at *
  unfold stmtF
  cases h1 : ((hdT l).text == kIf)
  case true => simp only [h1, if_true] at hno ⊢; exact hch B l w h hno
  cases h2 : ((hdT l).text == kWhile)
  case true => simp only [h1, h2, if_true, Bool.false_eq_true, if_false] at hno ⊢; exact hlo B l w h hno
  cases h3 : ((hdT l).text == kReturn)
  case true => simp only [h1, h2, h3, if_true, Bool.false_eq_true, if_false] at hno ⊢; exact hle B l w h hno
  cases h4 : ((hdT l).text == kAssert || (hdT l).text == kAssume)
  case true =>
    simp only [h1, h2, h3, h4, if_true, Bool.false_eq_true, if_false] at hno ⊢
    exact hcl B l w h (fun e => by rw [e] at h4; exact absurd h4 (by decide)) hno
  cases h5 : typeB (hdT l).text
  case true => simp only [h1, h2, h3, h4, h5, if_true, Bool.false_eq_true, if_false] at hno ⊢; exact hlc B l w h hno
  simp only [h1, h2, h3, h4, h5, Bool.false_eq_true, if_false] at hno ⊢
  exact hac B l w h hno
theorem all_at (n : Nat) (hn : n ≤ 900000) : ∀ d : Int, AllAt n d := by
  induction n with
  | zero => exact fun d => ⟨fun B l w h hno => absurd rfl hno, fun k _ _ B l w h hno => absurd rfl hno, fun B l w h hno => absurd rfl hno⟩
  | succ n ih =>
    intro d
    have H := ih (by omega)
    have hex : ∀ d, Does 135 (fun p => #[p]) d (exprP (runP n) d) := fun d => expression_does (runP n) d ((H d).binary 0 (by omega) (by omega))
    have hta : ∀ d, Does 138 (fun p => #[p]) d (targetP (runP n) d) := fun d => target_does (runP n) d enters135 (hex (d + 1))
    have har : ∀ d, Does 146 (fun p => #[p]) d (argP (runP n) d) := fun d => argument_does (runP n) d enters135 (hex (d + 1))
    have hca : ∀ d, Does 137 (fun p => #[p]) d (callP (runP n) n d) := fun d => call_does (runP n) n d (by omega) enters146 (har d)
    have hgw : Does 134 (fun p => #[p, .string ⟨kWhile.toArray⟩]) d (guardedP (runP n) kWhile d) := guarded_does (runP n) kWhile d (by decide) enters96 (hex d) (H (d + 1)).block
    have hgi : Does 134 (fun p => #[p, .string ⟨kIf.toArray⟩]) d (guardedP (runP n) kIf d) := guarded_does (runP n) kIf d (by decide) enters96 (hex d) (H (d + 1)).block
    refine ⟨?_, ?_, ?_⟩
    · exact block_does (runP n) n d (by omega) entersStmt (stmt_does (runP n) n d (choice_does (runP n) d enters96 hgi (H (d + 1)).block) (loop_does (runP n) d hgw) (leave_does (runP n) d (hex d)) (claim_does (runP n) d (hex d)) (local_does d (declared_any kLocal d)) (action_does (runP n) n d (hca d) (hta d) (hex d)))
    · exact fun k h0 h1 => binary_does (runP n) n k d h0 h1 (H d).operand (H d).binary
    · exact operand_does (runP n) d enters150 (H (d + 1)).operand (paren_does (runP n) d enters150 enters135 (H (d + 1)).operand (hex (d + 1))) (hta d)
theorem program_any (n : Nat) (hn : n ≤ 900000) : Does 48 (fun p => #[p]) 0 (programP n) :=
  program_does n hn (item_does n 0 hn enters96 enters94 (fun void B l w h hc hno => declared_does kGlobal void 0 B l w h hc hno) (param_does 0 (declared_any kParam 0)) ((all_at n hn 1).block))
end Go.Proofs.YtnalgnklgmoepaaGreatDoor
