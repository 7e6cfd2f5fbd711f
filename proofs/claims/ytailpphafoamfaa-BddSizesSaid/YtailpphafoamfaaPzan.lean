/- The reference: whether a table may be renamed so. The reference: a table renamed. Slices of tables. The reference: the tables of acts 1 to 4. -/
import Derived.Test.YtailpphafoamfaaPzam
set_option linter.all false
namespace Go.Proofs.Ytailpphafoamfaa
open Go Go.RowKit Go.Maps


section
variable {w : World} {va vv : Value} {t : List Bool}
/-- Two variables that are asked for and become one. -/
def ClashT (t : List Bool) (n : Nat) (to : List Int) (v u : Nat) : Prop := to.getD v 0 = to.getD u 0 ∧ asksT t n v = true ∧ asksT t n u = true
def GoodT (t : List Bool) (n : Nat) (to : List Int) (v : Nat) : Prop := (0 ≤ to.getD v 0 ∧ to.getD v 0 < (n : Int)) ∧ ∀ u, u < v → ¬ ClashT t n to v u
theorem renames_iff {t : List Bool} {n : Nat} {to : List Int} : RenamesT t n to ↔ to.length = n ∧ ∀ v, v < n → GoodT t n to v :=
  ⟨fun ⟨h1, h2, h3⟩ => ⟨h1, fun v hv => ⟨h2 v hv, fun u hu hc => h3 v u hv hu hc.1 hc.2.1 hc.2.2⟩⟩, fun ⟨h1, h2⟩ => ⟨h1, fun v hv => (h2 v hv).1, fun v u hv hu a b c => (h2 v hv).2 u hu ⟨a, b, c⟩⟩⟩
def RenamesPost (w : World) (t : List Bool) (n : Nat) (to : List Int) (e : Ending) (w' : World) : Prop := ∃ b, e = .returned (.bool b) ∧ (b = true ↔ RenamesT t n to) ∧ w.grownBy w' none
set_option maxHeartbeats 8000000 in
set_option maxRecDepth 100000 in
theorem renames_any {n : Nat} {to : List Int} (ha : Bools w va t) (hv : Nums w vv to) (hn : n ≤ 6) (ht : t.length = 2 ^ n) :
    Calls Try.prog 35 #[va, .int .i64 (n : Int), vv] w (RenamesPost w t n to) := by
  have HA := Lib.hid ha
  have HV := Lib.hid hv
  have HN := Lib.hid hn
  have HT := Lib.hid ht
  obtain ⟨N, hN⟩ : ∃ N, 2 ^ n = N := ⟨_, rfl⟩
  rw [hN] at ht
  have HNN := Lib.hid hN
  obtain ⟨bt, ot, ct, rfl, hbt, -⟩ := ha.at_ ht (i := 0) (by rw [← hN]; exact Nat.two_pow_pos n)
  have HBT := Lib.hid hbt
  obtain ⟨A, cl, rfl, -⟩ := hv
  have qn : (n : Int) ≤ 6 := by omega
  by_cases hlen : to.length = n
  · rw [hlen] at HV ⊢
    have HLEN := Lib.hid hlen
    have q0 : (((n : Nat) : Int) != ((n : Nat) : Int)) = false := by simp
    clear ha hn ht hN hbt hlen
    go_enter Try.func35, Try.ntmps35
    go_wp2
    go_loopw [7] (fun j wr => ∃ v : Nat, j = .int .i64 (v : Int) ∧ v ≤ n ∧ Hid (∀ z, z < v → GoodT t n to z) ∧ Hid (w.grownBy wr none)) (fun j _ => n - (intOf j).toNat)
    case atStart => exact ⟨0, rfl, Nat.zero_le _, Lib.hid (fun z hz => by omega), Lib.hid (World.grownBy.refl _ _)⟩
    case round =>
      obtain ⟨v, rfl, hk, hm, hb⟩ := hrel
      have HM := hm
      have HB := hb
      by_cases hlt : v < n
      · have q1 : (v : Int) < (n : Int) := by omega
        obtain ⟨wx, rfl⟩ : ∃ wx, wx = wr := ⟨_, rfl⟩
        obtain ⟨bl, ol, cl', hsv, hbl, hcl⟩ := (HV.out.grown HB.out).at_ HLEN.out hlt
        simp at hsv
        obtain ⟨rfl, rfl⟩ := hsv
        have HCL := Lib.hid hcl
        have HBL := Lib.hid hbl
        have kp0 := hcl v hlt
        obtain ⟨p, hp⟩ : ∃ p, to.getD v 0 = p := ⟨_, rfl⟩
        rw [hp] at kp0
        have HP := Lib.hid hp
        have HLT := Lib.hid hlt
        clear hcl hbl hp hlt hk hm hb
        by_cases hp0 : p < 0
        · have HE := Lib.hid (show ¬ RenamesT t n to from fun h => by have := h.2.1 v HLT.out; rw [HP.out] at this; omega)
          go_wp2
          go_ret
          exact ⟨false, rfl, by simp [HE.out], HB.out⟩
        · by_cases hp1 : p < (n : Int)
          · have q2 : ¬ p ≥ (n : Int) := by omega
            have HPP := Lib.hid (show 0 ≤ p ∧ p < (n : Int) from ⟨by omega, hp1⟩)
            go_wp2
            go_loopw [8] (fun j wy => ∃ u : Nat, j = .int .i64 (u : Int) ∧ u ≤ v ∧ Hid (∀ z, z < u → ¬ ClashT t n to v z) ∧ Hid (wx.grownBy wy none)) (fun j _ => v - (intOf j).toNat)
            case atStart => exact ⟨0, rfl, Nat.zero_le _, Lib.hid (fun z hz => by omega), Lib.hid (World.grownBy.refl _ _)⟩
            case round =>
              obtain ⟨u, rfl, hk2, hm2, hb2⟩ := hrel
              have HM2 := hm2
              have HB2 := hb2
              obtain ⟨wo, rfl⟩ : ∃ wo, wo = wr := ⟨_, rfl⟩
              by_cases hlt2 : u < v
              · have q3 : (u : Int) < (v : Int) := by omega
                have q4 : (u : Int) < (n : Int) := by omega
                have kp := (World.cell?_of_block (a := ⟨bl, ol + v, none⟩) (grown_far HB2.out HBL.out)).trans kp0
                have kq := (World.cell?_of_block (a := ⟨bl, ol + u, none⟩) (grown_far HB2.out HBL.out)).trans (HCL.out u (by have := HLT.out; omega))
                obtain ⟨q, hq⟩ : ∃ q, to.getD u 0 = q := ⟨_, rfl⟩
                rw [hq] at kq
                obtain ⟨d, hd⟩ : ∃ d, (p == q) = d := ⟨_, rfl⟩
                have HD := Lib.hid hd
                have HDD := Lib.hid (show d = true ↔ to.getD v 0 = to.getD u 0 from by rw [HP.out, hq, ← hd]; simp)
                have HLT2 := Lib.hid hlt2
                have hg0 : w.grownBy (World.drew wo) none := grown_trans (grown_trans HB.out HB2.out) (grown_drewN wo 1)
                have HG0 := Lib.hid hg0
                have HLTS := Lib.hid (show ∀ k ∈ [bt, bl], k < (World.drew wo).heap.size from fun k hk => by
                  have h1 := HBT.out
                  have h2 := HBL.out
                  have h3 := hg0.size
                  have h4 : wx.heap.size ≤ (World.drew wo).heap.size := (grown_trans HB2.out (grown_drewN wo 1)).size
                  simp at hk
                  rcases hk with rfl | rfl <;> omega)
                obtain ⟨x, hx⟩ : ∃ x, asksT t n v = x := ⟨_, rfl⟩
                obtain ⟨y, hy⟩ : ∃ y, asksT t n u = y := ⟨_, rfl⟩
                have HX := Lib.hid hx
                have HY := Lib.hid hy
                have CA := Lib.hid (asks_any (HA.out.grown HG0.out) HN.out HLT.out HT.out)
                have CB := fun (z : World) (hz : (World.drew wo).grownBy z none) => Lib.hid (asks_any ((HA.out.grown HG0.out).grown hz) HN.out (show u < n from by have := HLT.out; have := HLT2.out; omega) HT.out)
                simp only [HT.out, HNN.out, hx, hy] at CA CB
                clear hq hd hg0 hx hy hk2 hm2 hb2 hlt2
                go_wp2
                refine wp_region_T (S := fun w' => ∀ k ∈ [bt, bl], w'.heap[k]? = wo.heap[k]?) (tail := fun _ => false) (by kernel_rfl) ?_
                change wpAnyT _ _ _ _ _ _ _ _ _ (World.drew wo)
                have BD := Lib.hid (show ∀ k ∈ [bt, bl], (World.drew wo).heap[k]? = wo.heap[k]? from fun _ _ => rfl)
                refine tk 0 36 (.slice (some ⟨bl, ol, none⟩) n cl) BD.out ?y0 ?_
                case y0 =>
                  intro w' hw'
                  go_simp
                try simp only [Act.put, List.setIfInBounds_toArray, List.set_cons_zero, List.set_cons_succ]
                refine tk 1 37 (.int .i64 ((v : Nat) : Int)) BD.out ?y1 ?_
                case y1 =>
                  intro w' hw'
                  go_simp
                try simp only [Act.put, List.setIfInBounds_toArray, List.set_cons_zero, List.set_cons_succ]
                refine tk 2 38 (.pointer (some ⟨bl, ol + v, none⟩)) BD.out ?y2 ?_
                case y2 =>
                  intro w' hw'
                  go_simp
                try simp only [Act.put, List.setIfInBounds_toArray, List.set_cons_zero, List.set_cons_succ]
                refine tk 3 39 (.int .i64 p) BD.out ?y3 ?_
                case y3 =>
                  intro w' hw'
                  have z0 := (World.cell?_of_block (a := ⟨bl, ol + v, none⟩) (hw' bl (by simp))).trans kp
                  go_simp
                try simp only [Act.put, List.setIfInBounds_toArray, List.set_cons_zero, List.set_cons_succ]
                refine tk 4 40 (.slice (some ⟨bl, ol, none⟩) n cl) BD.out ?y4 ?_
                case y4 =>
                  intro w' hw'
                  go_simp
                try simp only [Act.put, List.setIfInBounds_toArray, List.set_cons_zero, List.set_cons_succ]
                refine tk 5 41 (.int .i64 ((u : Nat) : Int)) BD.out ?y5 ?_
                case y5 =>
                  intro w' hw'
                  go_simp
                try simp only [Act.put, List.setIfInBounds_toArray, List.set_cons_zero, List.set_cons_succ]
                refine tk 6 42 (.pointer (some ⟨bl, ol + u, none⟩)) BD.out ?y6 ?_
                case y6 =>
                  intro w' hw'
                  go_simp
                try simp only [Act.put, List.setIfInBounds_toArray, List.set_cons_zero, List.set_cons_succ]
                refine tk 7 43 (.int .i64 q) BD.out ?y7 ?_
                case y7 =>
                  intro w' hw'
                  have z0 := (World.cell?_of_block (a := ⟨bl, ol + u, none⟩) (hw' bl (by simp))).trans kq
                  go_simp
                try simp only [Act.put, List.setIfInBounds_toArray, List.set_cons_zero, List.set_cons_succ]
                refine tk 8 44 (.bool d) BD.out ?y8 ?_
                case y8 =>
                  intro w' hw'
                  go_simp
                  try rw [← HD.out]
                  try rfl
                try simp only [Act.put, List.setIfInBounds_toArray, List.set_cons_zero, List.set_cons_succ]
                refine tk 9 45 (.bool d) BD.out ?y9 ?_
                case y9 =>
                  intro w' hw'
                  go_simp
                try simp only [Act.put, List.setIfInBounds_toArray, List.set_cons_zero, List.set_cons_succ]
                cases d with
                | false =>
                  have HNO := Lib.hid (show ¬ ClashT t n to v u from fun h => by have := HDD.out.2 h.1; cases this)
                  have HGX := Lib.hid (show wx.grownBy (World.drew wo) none from grown_trans HB2.out (grown_drewN wo 1))
                  refine sk 10 46 BD.out ?_
                  try simp only [Act.put, List.setIfInBounds_toArray, List.set_cons_zero, List.set_cons_succ]
                  refine sk 11 47 BD.out ?_
                  try simp only [Act.put, List.setIfInBounds_toArray, List.set_cons_zero, List.set_cons_succ]
                  refine sk 12 48 BD.out ?_
                  try simp only [Act.put, List.setIfInBounds_toArray, List.set_cons_zero, List.set_cons_succ]
                  refine sk 13 49 BD.out ?_
                  try simp only [Act.put, List.setIfInBounds_toArray, List.set_cons_zero, List.set_cons_succ]
                  refine tk 14 50 (.bool false) BD.out ?y14 ?_
                  case y14 =>
                    intro w' hw'
                    go_simp
                  try simp only [Act.put, List.setIfInBounds_toArray, List.set_cons_zero, List.set_cons_succ]
                  refine tk 15 51 (.bool false) BD.out ?y15 ?_
                  case y15 =>
                    intro w' hw'
                    go_simp
                  try simp only [Act.put, List.setIfInBounds_toArray, List.set_cons_zero, List.set_cons_succ]
                  refine sk 16 52 BD.out ?_
                  try simp only [Act.put, List.setIfInBounds_toArray, List.set_cons_zero, List.set_cons_succ]
                  refine sk 17 53 BD.out ?_
                  try simp only [Act.put, List.setIfInBounds_toArray, List.set_cons_zero, List.set_cons_succ]
                  refine sk 18 54 BD.out ?_
                  try simp only [Act.put, List.setIfInBounds_toArray, List.set_cons_zero, List.set_cons_succ]
                  refine sk 19 55 BD.out ?_
                  try simp only [Act.put, List.setIfInBounds_toArray, List.set_cons_zero, List.set_cons_succ]
                  refine tk 20 56 (.bool false) BD.out ?y20 ?_
                  case y20 =>
                    intro w' hw'
                    go_simp
                  try simp only [Act.put, List.setIfInBounds_toArray, List.set_cons_zero, List.set_cons_succ]
                  refine dn ?_
                  go_wp2
                  go_roundw
                  case rel => exact ⟨u + 1, by go_num, HLT2.out, Lib.hid (fun z hz => by
                    by_cases ez : z = u
                    · subst ez; exact HNO.out
                    · exact HM2.out z (by omega)), HGX⟩
                  case measure => simp [intOf]; have := HLT2.out; omega
                | true =>
                  refine tk 10 46 (.slice (some ⟨bt, ot, none⟩) N ct) BD.out ?y10 ?_
                  case y10 =>
                    intro w' hw'
                    go_simp
                  try simp only [Act.put, List.setIfInBounds_toArray, List.set_cons_zero, List.set_cons_succ]
                  refine tk 11 47 (.int .i64 ((n : Nat) : Int)) BD.out ?y11 ?_
                  case y11 =>
                    intro w' hw'
                    go_simp
                  try simp only [Act.put, List.setIfInBounds_toArray, List.set_cons_zero, List.set_cons_succ]
                  refine tk 12 48 (.int .i64 ((v : Nat) : Int)) BD.out ?y12 ?_
                  case y12 =>
                    intro w' hw'
                    go_simp
                  try simp only [Act.put, List.setIfInBounds_toArray, List.set_cons_zero, List.set_cons_succ]
                  refine on 13 (fun K hK => ?_)
                  go_simp
                  refine (CA.out).mono ?_
                  rintro e z1 ⟨rfl, hg⟩
                  have Bz1 := Lib.hid (show ∀ k ∈ [bt, bl], z1.heap[k]? = wo.heap[k]? from fun k hk => (grown_far hg (HLTS.out k hk)).trans (BD.out k hk))
                  have HGz1 := Lib.hid hg
                  clear hg
                  refine hK.out _ _ (fun _ => Bz1.out) ?_
                  clear hK K
                  try simp only [Act.put, List.setIfInBounds_toArray, List.set_cons_zero, List.set_cons_succ]
                  cases x with
                  | false =>
                    have HNO := Lib.hid (show ¬ ClashT t n to v u from fun h => by have := h.2.1; rw [HX.out] at this; cases this)
                    have HGX := Lib.hid (show wx.grownBy z1 none from grown_trans (grown_trans HB2.out (grown_drewN wo 1)) HGz1.out)
                    refine tk 14 50 (.bool false) Bz1.out ?y14 ?_
                    case y14 =>
                      intro w' hw'
                      go_simp
                    try simp only [Act.put, List.setIfInBounds_toArray, List.set_cons_zero, List.set_cons_succ]
                    refine tk 15 51 (.bool false) Bz1.out ?y15 ?_
                    case y15 =>
                      intro w' hw'
                      go_simp
                    try simp only [Act.put, List.setIfInBounds_toArray, List.set_cons_zero, List.set_cons_succ]
                    refine sk 16 52 Bz1.out ?_
                    try simp only [Act.put, List.setIfInBounds_toArray, List.set_cons_zero, List.set_cons_succ]
                    refine sk 17 53 Bz1.out ?_
                    try simp only [Act.put, List.setIfInBounds_toArray, List.set_cons_zero, List.set_cons_succ]
                    refine sk 18 54 Bz1.out ?_
                    try simp only [Act.put, List.setIfInBounds_toArray, List.set_cons_zero, List.set_cons_succ]
                    refine sk 19 55 Bz1.out ?_
                    try simp only [Act.put, List.setIfInBounds_toArray, List.set_cons_zero, List.set_cons_succ]
                    refine tk 20 56 (.bool false) Bz1.out ?y20 ?_
                    case y20 =>
                      intro w' hw'
                      go_simp
                    try simp only [Act.put, List.setIfInBounds_toArray, List.set_cons_zero, List.set_cons_succ]
                    refine dn ?_
                    go_wp2
                    go_roundw
                    case rel => exact ⟨u + 1, by go_num, HLT2.out, Lib.hid (fun z hz => by
                      by_cases ez : z = u
                      · subst ez; exact HNO.out
                      · exact HM2.out z (by omega)), HGX⟩
                    case measure => simp [intOf]; have := HLT2.out; omega
                  | true =>
                    refine tk 14 50 (.bool true) Bz1.out ?y14 ?_
                    case y14 =>
                      intro w' hw'
                      go_simp
                    try simp only [Act.put, List.setIfInBounds_toArray, List.set_cons_zero, List.set_cons_succ]
                    refine tk 15 51 (.bool true) Bz1.out ?y15 ?_
                    case y15 =>
                      intro w' hw'
                      go_simp
                    try simp only [Act.put, List.setIfInBounds_toArray, List.set_cons_zero, List.set_cons_succ]
                    refine tk 16 52 (.slice (some ⟨bt, ot, none⟩) N ct) Bz1.out ?y16 ?_
                    case y16 =>
                      intro w' hw'
                      go_simp
                    try simp only [Act.put, List.setIfInBounds_toArray, List.set_cons_zero, List.set_cons_succ]
                    refine tk 17 53 (.int .i64 ((n : Nat) : Int)) Bz1.out ?y17 ?_
                    case y17 =>
                      intro w' hw'
                      go_simp
                    try simp only [Act.put, List.setIfInBounds_toArray, List.set_cons_zero, List.set_cons_succ]
                    refine tk 18 54 (.int .i64 ((u : Nat) : Int)) Bz1.out ?y18 ?_
                    case y18 =>
                      intro w' hw'
                      go_simp
                    try simp only [Act.put, List.setIfInBounds_toArray, List.set_cons_zero, List.set_cons_succ]
                    refine on 19 (fun K hK => ?_)
                    go_simp
                    refine ((CB z1 HGz1.out).out).mono ?_
                    rintro e z2 ⟨rfl, hg⟩
                    have Bz2 := Lib.hid (show ∀ k ∈ [bt, bl], z2.heap[k]? = wo.heap[k]? from fun k hk => (grown_far hg (Nat.lt_of_lt_of_le (HLTS.out k hk) HGz1.out.size)).trans (Bz1.out k hk))
                    have HGz2 := Lib.hid hg
                    clear hg
                    refine hK.out _ _ (fun _ => Bz2.out) ?_
                    clear hK K
                    try simp only [Act.put, List.setIfInBounds_toArray, List.set_cons_zero, List.set_cons_succ]
                    refine tk 20 56 (.bool y) Bz2.out ?y20 ?_
                    case y20 =>
                      intro w' hw'
                      go_simp
                    try simp only [Act.put, List.setIfInBounds_toArray, List.set_cons_zero, List.set_cons_succ]
                    refine dn ?_
                    have HGX := Lib.hid (show wx.grownBy z2 none from grown_trans (grown_trans (grown_trans HB2.out (grown_drewN wo 1)) HGz1.out) HGz2.out)
                    cases y with
                    | false =>
                      have HNO := Lib.hid (show ¬ ClashT t n to v u from fun h => by have := h.2.2; rw [HY.out] at this; cases this)
                      go_wp2
                      go_roundw
                      case rel => exact ⟨u + 1, by go_num, HLT2.out, Lib.hid (fun z hz => by
                        by_cases ez : z = u
                        · subst ez; exact HNO.out
                        · exact HM2.out z (by omega)), HGX⟩
                      case measure => simp [intOf]; have := HLT2.out; omega
                    | true =>
                      have HE := Lib.hid (show ¬ RenamesT t n to from fun h => h.2.2 v u HLT.out HLT2.out (HDD.out.1 rfl) HX.out HY.out)
                      go_wp2
                      go_ret
                      exact ⟨false, rfl, by simp [HE.out], grown_trans HB.out HGX.out⟩
              · obtain rfl : u = v := by omega
                have q3 : ¬ (u : Int) < (u : Int) := by omega
                clear hk2 hlt2 hm2 hb2
                go_wp2
                go_roundw
                case rel => exact ⟨u + 1, by go_num, HLT.out, Lib.hid (fun z hz => by
                  by_cases ez : z = u
                  · subst ez; exact ⟨by rw [HP.out]; exact HPP.out, HM2.out⟩
                  · exact HM.out z (by omega)), Lib.hid (grown_trans HB.out HB2.out)⟩
                case measure => simp [intOf]; have := HLT.out; omega
          · have q2 : p ≥ (n : Int) := by omega
            have HE := Lib.hid (show ¬ RenamesT t n to from fun h => by have := h.2.1 v HLT.out; rw [HP.out] at this; omega)
            go_wp2
            go_ret
            exact ⟨false, rfl, by simp [HE.out], HB.out⟩
      · obtain rfl : v = n := by omega
        have q1 : ¬ (v : Int) < (v : Int) := by omega
        have HE := Lib.hid (show RenamesT t v to from renames_iff.2 ⟨HLEN.out, HM.out⟩)
        clear hk hlt hm hb
        go_wp2
        go_ret
        exact ⟨true, rfl, by simp [HE.out], HB.out⟩
  · have q0 : (((to.length : Nat) : Int) != ((n : Nat) : Int)) = true := by simp; omega
    have HE := Lib.hid (show ¬ RenamesT t n to from fun h => hlen h.1)
    clear ha hn ht hN hbt hlen
    go_enter Try.func35, Try.ntmps35
    go_wp2
    go_ret
    exact ⟨false, rfl, by simp [HE.out], World.grownBy.refl _ _⟩
end

end Go.Proofs.Ytailpphafoamfaa
namespace Go.Proofs.Ytailpphafoamfaa
open Go Go.RowKit Go.Maps


section
variable {w : World} {va vv : Value} {t : List Bool}
/-- One entry of a row is written. -/
theorem BRow.set {base : Nat} {g n c : Nat} {l : List Bool} (h : BRow base w (.slice (some ⟨g, 0, none⟩) n c) l) (i : Nat) (x : Bool) : BRow base (w.setCell ⟨g, i, none⟩ (.bool x)) (.slice (some ⟨g, 0, none⟩) n c) (l.set i x) := by
  obtain ⟨h1, h2⟩ := h
  refine ⟨by simp, ?_⟩
  rcases h2 with ⟨h3, -⟩ | ⟨g', cap, cur, h3, hb, hh, h4, h5, h6, h7⟩
  · cases h3
  · simp at h3
    obtain ⟨rfl, rfl, rfl⟩ := h3
    right
    refine ⟨g, c, cur.setIfInBounds i (.bool x), by simp, hb, heap_set _ hh, by simpa using h4, h5, by simpa using h6, ?_⟩
    rw [Array.toList_setIfInBounds, List.length_set, List.map_set, ← h7, List.take_set]
theorem BRow.at_ {base : Nat} {v : Value} {l : List Bool} (h : BRow base w v l) {N : Nat} (hN : l.length = N) (h0 : 0 < N) : ∃ g c, v = .slice (some ⟨g, 0, none⟩) N c ∧ base ≤ g ∧ g < w.heap.size := by
  have hlt := h.lt
  obtain ⟨h1, h2⟩ := h
  rcases h2 with ⟨-, h3⟩ | ⟨g, cap, cur, rfl, -⟩
  · omega
  · have := hlt g rfl
    exact ⟨g, cap, by rw [hN], this.1, this.2⟩
theorem BRow.frz {base : Nat} {g n c : Nat} {l : List Bool} (h : BRow base w (.slice (some ⟨g, 0, none⟩) n c) l) (i : Nat) : w.frozen? ⟨g, i, none⟩ = false := by
  obtain ⟨h1, h2⟩ := h
  rcases h2 with ⟨h3, -⟩ | ⟨g', cap, cur, h3, hb, hh, -⟩
  · cases h3
  · simp at h3
    obtain ⟨rfl, rfl, rfl⟩ := h3
    exact frz_of hh
/-- What a way has been before, so far. -/
def oldP (t : List Bool) (n : Nat) (to : List Int) (i k : Nat) : List Bool := (List.range n).map fun v => if v < k ∧ asksT t n v = true then way n i (to.getD v 0).toNat else false
theorem oldP_len (t : List Bool) (n : Nat) (to : List Int) (i k : Nat) : (oldP t n to i k).length = n := by simp [oldP]
theorem oldP_zero (t : List Bool) (n : Nat) (to : List Int) (i : Nat) : oldP t n to i 0 = wayL n 0 := by
  unfold oldP wayL
  refine List.map_congr_left fun v _ => ?_
  simp [way]
theorem oldP_end (t : List Bool) (n : Nat) (to : List Int) (i : Nat) : oldP t n to i n = oldL t n to i := by
  unfold oldP oldL
  refine List.map_congr_left fun v hv => ?_
  have : v < n := by simpa using hv
  simp [this]
theorem oldP_no {t : List Bool} {n : Nat} {to : List Int} {i k : Nat} (h : asksT t n k = false) : oldP t n to i (k + 1) = oldP t n to i k := by
  unfold oldP
  refine List.map_congr_left fun v _ => ?_
  by_cases e : v = k
  · subst e; simp [h]
  · have : (v < k + 1) ↔ v < k := by omega
    simp [this]
theorem oldP_yes {t : List Bool} {n : Nat} {to : List Int} {i k : Nat} (h : asksT t n k = true) (hk : k < n) : oldP t n to i (k + 1) = (oldP t n to i k).set k (way n i (to.getD k 0).toNat) := by
  apply List.ext_getElem (by simp [oldP])
  intro v h1 h2
  have hv : v < n := by simpa [oldP] using h1
  by_cases e : v = k
  · subst e
    simp [oldP, h]
  · rw [List.getElem_set_ne (by omega)]
    have : (v < k + 1) ↔ v < k := by omega
    simp [oldP, this]
def renE (t : List Bool) (n : Nat) (to : List Int) (i : Nat) : Bool := t.getD (atL (oldL t n to i)) false
theorem renT_eq (t : List Bool) (n : Nat) (to : List Int) : renT t n to = (List.range t.length).map (renE t n to) := rfl
set_option maxHeartbeats 8000000 in
set_option maxRecDepth 100000 in
theorem rrename_any {n : Nat} {to : List Int} (ha : Bools w va t) (hv : Nums w vv to) (hn : n ≤ 6) (ht : t.length = 2 ^ n) (hr : RenamesT t n to) :
    Calls Try.prog 45 #[va, .int .i64 (n : Int), vv] w fun e w' => ∃ v, e = .returned v ∧ BRow w.heap.size w' v (renT t n to) ∧ w.grownBy w' none := by
  obtain ⟨i0, hi0, hz0, hz1, hz2⟩ := info_parts info4
  have HA := Lib.hid ha
  have HV := Lib.hid hv
  have HN := Lib.hid hn
  have HT := Lib.hid ht
  have HR := Lib.hid hr
  obtain ⟨N, hN⟩ : ∃ N, 2 ^ n = N := ⟨_, rfl⟩
  rw [hN] at ht
  have HNN := Lib.hid hN
  have hN6 := pow6 hn
  obtain ⟨bt, ot, ct, rfl, hbt, hct⟩ := ha.at_ ht (i := 0) (by rw [← hN]; exact Nat.two_pow_pos n)
  have HBT := Lib.hid hbt
  have HCT := Lib.hid hct
  obtain ⟨A, cl, rfl, -⟩ := hv
  have qn : (n : Int) ≤ 6 := by omega
  have qN : (N : Int) ≤ 64 := by omega
  have HTN := Lib.hid ht
  have HN6 := Lib.hid (show N ≤ 64 from by omega)
  rw [hr.1] at HV ⊢
  clear ha hn ht hN hbt hct hr hN6
  go_enter Try.func45, Try.ntmps45
  go_wp2
  go_loopw [7, 8] (fun a j wr => ∃ i : Nat, j = .int .i64 (i : Int) ∧ i ≤ N ∧ Hid (BRow w.heap.size wr a ((List.range i).map (renE t n to))) ∧ Hid (w.grownBy wr none)) (fun _ j _ => N - (intOf j).toNat)
  case atStart => exact ⟨0, rfl, Nat.zero_le _, Lib.hid (BRow.made w (Nat.le_refl _)), Lib.hid (grown_alloc _ _)⟩
  case round =>
    obtain ⟨i, rfl, hk, hm, hb⟩ := hrel
    have HM := hm
    have HB := hb
    obtain ⟨wo, rfl⟩ : ∃ wo, wo = wr := ⟨_, rfl⟩
    by_cases hlt : i < N
    · have q1 : (i : Int) < (N : Int) := by omega
      have HLT := Lib.hid hlt
      have HW1 := Lib.hid (way_any n i HN.out (by have := HN6.out; omega) wo)
      clear hk hm hb hlt
      go_wp2_with fail
      refine (HW1.out).mono ?_
      rintro e w1 ⟨v1, rfl, hr1, hg1⟩
      have HR1 := Lib.hid hr1
      have HG1 := Lib.hid hg1
      have HW2 := Lib.hid (way_any n 0 HN.out (by decide) w1)
      have e00 : ((0 : Nat) : Int) = 0 := rfl
      rw [e00] at HW2
      clear hr1 hg1 HW1
      go_wp2_with fail
      refine (HW2.out).mono ?_
      rintro e w2 ⟨v2, rfl, hr2, hg2⟩
      have HR2 := Lib.hid (show BRow w1.heap.size w2 v2 (oldP t n to i 0) from by rw [oldP_zero]; exact hr2)
      have HG2 := Lib.hid hg2
      clear hr2 hg2 HW2
      go_wp2
      go_loopw [11] (fun j wi => ∃ v : Nat, j = .int .i64 (v : Int) ∧ v ≤ n ∧ Hid (BRow w1.heap.size wi v2 (oldP t n to i v)) ∧ Hid (w1.grownBy wi none)) (fun j _ => n - (intOf j).toNat)
      case atStart => exact ⟨0, rfl, Nat.zero_le _, HR2, HG2⟩
      case round =>
        obtain ⟨v, rfl, hk2, hm2, hb2⟩ := hrel
        have HM2 := hm2
        have HB2 := hb2
        have HBW := Lib.hid (grown_trans HB.out (grown_trans HG1.out HB2.out))
        by_cases hlt2 : v < n
        · have q2 : (v : Int) < (n : Int) := by omega
          have HLT2 := Lib.hid hlt2
          have HAS := Lib.hid (asks_any (HA.out.grown HBW.out) HN.out hlt2 HT.out)
          try simp only [HT.out, HNN.out] at HAS
          obtain ⟨x, hx⟩ : ∃ x, asksT t n v = x := ⟨_, rfl⟩
          rw [hx] at HAS
          have HX := Lib.hid hx
          clear hk2 hm2 hb2 hlt2 hx
          go_wp2_with fail
          refine (HAS.out).mono ?_
          rintro e w3 ⟨rfl, hg3⟩
          have HG3 := Lib.hid hg3
          have HM3 := Lib.hid (HM2.out.grown hg3)
          have HB3 := Lib.hid (grown_trans HB2.out hg3)
          clear hg3 HAS
          cases x with
          | false =>
            go_wp2
            go_roundw
            case rel => exact ⟨v + 1, by go_num, HLT2.out, Lib.hid (by rw [oldP_no HX.out]; exact HM3.out), HB3⟩
            case measure => simp [intOf]; have := HLT2.out; omega
          | true =>
            obtain ⟨g2, c2, hs2, hge2, hlt2⟩ := HM3.out.at_ (N := n) (oldP_len _ _ _ _ _) (by have := HLT2.out; omega)
            subst hs2
            obtain ⟨g1, c1, hs1, hge1, hlg1⟩ := HR1.out.at_ (N := n) (wayL_len n i) (by have := HLT2.out; omega)
            subst hs1
            have hbo := (HR1.out.bools.grown HB3.out).at_ (N := n) (wayL_len n i) HLT2.out
            obtain ⟨b1, o1, c1', he1, hbb1, hcc1⟩ := hbo
            simp at he1
            obtain ⟨⟨rfl, rfl⟩, rfl⟩ := he1
            obtain ⟨bl, ol, cl', hsv, hbl, hcl⟩ := (HV.out.grown (grown_trans (grown_trans HB.out HG1.out) HB3.out)).at_ (N := n) HR.out.1 HLT2.out
            simp at hsv
            obtain ⟨rfl, rfl⟩ := hsv
            have hto := HR.out.2.1 v HLT2.out
            obtain ⟨p, hp⟩ : ∃ p : Nat, to.getD v 0 = (p : Int) := ⟨(to.getD v 0).toNat, by omega⟩
            have kp := hcl v HLT2.out
            rw [hp] at kp hto
            have kw := hcc1 p (by omega)
            rw [wayL_get (by omega)] at kw
            rw [Nat.zero_add] at kw
            have q3 : (p : Int) < (n : Int) := hto.2
            have kf := HM3.out.frz v
            have HSET := Lib.hid (show BRow w1.heap.size (w3.setCell ⟨g2, v, none⟩ (.bool (way n i p))) (.slice (some ⟨g2, 0, none⟩) n c2) (oldP t n to i (v + 1)) from by
              rw [oldP_yes HX.out HLT2.out, hp, Int.toNat_natCast]
              exact HM3.out.set v _)
            have HGS := Lib.hid (show w1.grownBy (w3.setCell ⟨g2, v, none⟩ (.bool (way n i p))) none from grown_own (v := .slice (some ⟨g2, 0, none⟩) n c2) HB3.out (fun k hk => by cases hk; exact hge2) (grown_set w3 ⟨g2, v, none⟩ _))
            have hce := (HM3.out.bools).at_ (N := n) (oldP_len _ _ _ _ _) HLT2.out
            obtain ⟨b2, o2, c2', he2, hbb2, hcc2⟩ := hce
            simp at he2
            obtain ⟨⟨rfl, rfl⟩, rfl⟩ := he2
            have k2 := hcc2 v HLT2.out
            rw [Nat.zero_add] at k2
            clear hcl hbl hcc1 hcc2 hto hp hge1 hge2 hlt2 hlg1 hbb1 hbb2
            go_wp2
            go_roundw
            case rel => exact ⟨v + 1, by go_num, HLT2.out, HSET, HGS⟩
            case measure => simp [intOf]; have := HLT2.out; omega
        · obtain rfl : v = n := by omega
          have q2 : ¬ (v : Int) < (v : Int) := by omega
          have HOL := Lib.hid (show BRow w1.heap.size wr v2 (oldL t v to i) from by rw [← oldP_end]; exact HM2.out)
          have HAT := Lib.hid (rat_any HOL.out.bools (by have := HN.out; simp [oldL]; omega))
          have hal := atL_lt (oldL t v to i)
          have e1 : (oldL t v to i).length = v := by simp [oldL]
          rw [e1, HNN.out] at hal
          have ky := (World.cell?_of_block (a := ⟨bt, ot + atL (oldL t v to i), none⟩) (grown_far HBW.out HBT.out)).trans (HCT.out _ hal)
          obtain ⟨x, hx⟩ : ∃ x, t.getD (atL (oldL t v to i)) false = x := ⟨_, rfl⟩
          rw [hx] at ky
          have HX := Lib.hid (show renE t v to i = x from hx)
          obtain ⟨f, hf⟩ : ∃ f, atL (oldL t v to i) = f := ⟨_, rfl⟩
          rw [hf] at ky hal HAT
          have q3 : (f : Int) < (N : Int) := by omega
          have HM4 := Lib.hid (HM.out.grown (grown_trans HG1.out HB2.out))
          have QL := Lib.hid (show ((List.range i).map (renE t v to)).length ≤ 1000000 from by rw [List.length_map, List.length_range]; have := HLT.out; have := HN6.out; omega)
          have QB := fun o : Obj => Lib.hid (show w.heap.size ≤ (wr.alloc o).heap.size from by have := HBW.out.size; simp; omega)
          clear hk2 hlt2 hm2 hb2 hal e1 hx hf
          go_wp2_with fail
          refine (HAT.out).mono ?_
          rintro e w4 ⟨rfl, hg4⟩
          have ky4 := (World.cell?_of_block (a := ⟨bt, ot + f, none⟩) (grown_far hg4 (Nat.lt_of_lt_of_le HBT.out HBW.out.size))).trans ky
          have HM5 := Lib.hid (HM4.out.grown hg4)
          have HBW4 := Lib.hid (grown_trans HBW.out hg4)
          have QB4 := fun o : Obj => Lib.hid (show w.heap.size ≤ (w4.alloc o).heap.size from by have := (grown_trans HBW.out hg4).size; simp; omega)
          clear hg4 HAT ky
          go_wp2_with (at_builtin; refine wpList_push _ rfl (.tmp 43) (.tmp 49) 32 rfl 4 i0 (.bool false) 1 Try.underlying32 hi0 hz0 hz1 hz2 rfl (by decide) w.heap.size _ _ _ rfl (HM5.out.alloc _) w4.heap.size 1 (.bool x) rfl (cell_new _ _ _) rfl QL.out (QB4 _).out ?_; intro o2 w5 hown2 hgrow2 _; have HO2 := Lib.hid hown2; have HG5 := Lib.hid hgrow2; clear hown2 hgrow2)
          go_roundw
          case rel => exact ⟨i + 1, by go_num, HLT.out, Lib.hid (by unfold BRow; rw [List.range_succ, List.map_append, List.map_append]; simpa [HX.out] using HO2.out), Lib.hid (grown_own (grown_trans HBW4.out (grown_alloc w4 _)) (fun b hb => (HM5.out.lt b hb).1) HG5.out)⟩
          case measure => simp [intOf]; have := HLT.out; omega
    · obtain rfl : i = N := by omega
      have q1 : ¬ (i : Int) < (i : Int) := by omega
      have HE := Lib.hid (show renT t n to = (List.range i).map (renE t n to) from by rw [renT_eq, HTN.out])
      clear hk hlt hm hb
      go_wp2
      go_ret
      exact ⟨_, rfl, by rw [HE.out]; exact HM.out, HB.out⟩
end

end Go.Proofs.Ytailpphafoamfaa
namespace Go.Proofs.Ytailpphafoamfaa
open Go Go.RowKit Go.Maps


/-- A slice value that reads as tables. -/
def Tabs (w : World) (v : Value) (ts : List (List Bool)) : Prop := ∃ A c, v = .slice A ts.length c ∧ (ts ≠ [] → ∃ b off, A = some ⟨b, off, none⟩ ∧ b < w.heap.size ∧ ∀ j t, ts[j]? = some t → ∃ u, w.cell? ⟨b, off + j, none⟩ = some u ∧ Bools w u t)
/-- A table's entry. -/
def ent (ts : List (List Bool)) (A i : Nat) : Bool := (ts.getD A []).getD i false
def entI (ts : List (List Bool)) (A B C i : Nat) : Bool := iteB (ent ts A i) (ent ts B i) (ent ts C i)
section
variable {w w' : World} {v : Value} {ts : List (List Bool)}
theorem Tabs.grown (h : Tabs w v ts) (hg : w.grownBy w' none) : Tabs w' v ts := by
  obtain ⟨A, c, h1, h2⟩ := h
  refine ⟨A, c, h1, fun hne => ?_⟩
  obtain ⟨b, off, h3, h4, h5⟩ := h2 hne
  refine ⟨b, off, h3, Nat.lt_of_lt_of_le h4 hg.size, fun j t ht => ?_⟩
  obtain ⟨u, h6, h7⟩ := h5 j t ht
  exact ⟨u, (World.cell?_of_block (a := ⟨b, off + j, none⟩) (grown_far hg h4)).trans h6, h7.grown hg⟩
theorem Tabs.at_ (h : Tabs w v ts) {M N : Nat} (hM : ts.length = M) (hN : ∀ t ∈ ts, t.length = N) (h0 : 0 < N) {j0 : Nat} (hj0 : j0 < M) : ∃ b off c, v = .slice (some ⟨b, off, none⟩) M c ∧ b < w.heap.size ∧
    ∀ j, j < M → ∃ bj oj cj, w.cell? ⟨b, off + j, none⟩ = some (.slice (some ⟨bj, oj, none⟩) N cj) ∧ bj < w.heap.size ∧ ∀ i, i < N → w.cell? ⟨bj, oj + i, none⟩ = some (.bool (ent ts j i)) := by
  obtain ⟨A, c, h1, h2⟩ := h
  obtain ⟨b, off, rfl, h4, h5⟩ := h2 (by intro e; rw [e] at hM; simp at hM; omega)
  refine ⟨b, off, c, by rw [h1, hM], h4, fun j hj => ?_⟩
  have hj' : j < ts.length := by omega
  obtain ⟨u, h6, h7⟩ := h5 j ts[j] (List.getElem?_eq_getElem hj')
  obtain ⟨bj, oj, cj, rfl, h8, h9⟩ := h7.at_ (hN _ (List.getElem_mem hj')) (i := 0) h0
  refine ⟨bj, oj, cj, h6, h8, fun i hi => (h9 i hi).trans ?_⟩
  unfold ent
  rw [List.getD_eq_getElem?_getD (l := ts), List.getElem?_eq_getElem hj']
  rfl
end
theorem wrap_pown {n : Nat} (h : n ≤ 6) : IntKind.i64.wrap (2 ^ n) = 2 ^ n := wrap_pow h
theorem lt_pow {i n N : Nat} (hN : 2 ^ n = N) (h : i < N) : (i : Int) < 2 ^ n := by
  have e : ((2 : Int) ^ n) = ((2 ^ n : Nat) : Int) := by simp
  rw [e, hN]; omega
theorem not_lt_pow {n N : Nat} (hN : 2 ^ n = N) : ¬ (N : Int) < 2 ^ n := by
  have e : ((2 : Int) ^ n) = ((2 ^ n : Nat) : Int) := by simp
  rw [e, hN]; omega


end Go.Proofs.Ytailpphafoamfaa
namespace Go.Proofs.Ytailpphafoamfaa
open Go Go.RowKit Go.Maps

set_option maxHeartbeats 8000000 in
set_option maxRecDepth 100000 in
theorem rdo1_any {w : World} {lv vv : Value} {n A B C : Nat} {ts : List (List Bool)} (hl : Tabs w lv ts) (hn : n ≤ 6) (hts : ∀ t ∈ ts, t.length = 2 ^ n) (hM1 : ts.length ≤ 1000000) (hA : A < ts.length) (hB : B < ts.length) (hC : C < ts.length) :
    Calls Try.prog 26 #[.int .i64 (n : Int), .agg #[.int .i64 1, .int .i64 (A : Int), .int .i64 (B : Int), .int .i64 (C : Int), vv], lv] w fun e w' => ∃ v, e = .returned v ∧ BRow w.heap.size w' v ((List.range (2 ^ n)).map fun i => entI ts A B C i) ∧ w.grownBy w' none := by
  obtain ⟨i0, hi0, hz0, hz1, hz2⟩ := info_parts info4
  have HN := Lib.hid hn
  obtain ⟨N, hN⟩ : ∃ N, 2 ^ n = N := ⟨_, rfl⟩
  have HNN := Lib.hid hN
  have hp := pow6 hn
  have HN6 := Lib.hid (show N ≤ 64 from by omega)
  rw [hN]
  have qn : (n : Int) ≤ 6 := by omega
  have qN : (N : Int) ≤ 64 := by omega
  have w1 : IntKind.u64.wrap (n : Int) = (n : Int) := IntWalk.u64_in _ (by omega)
  have w2 : IntKind.i64.wrap (2 ^ n) = 2 ^ n := wrap_pown hn
  obtain ⟨M, hM⟩ : ∃ M, ts.length = M := ⟨_, rfl⟩
  rw [hM] at hA hB hC hM1
  have qM : (M : Int) ≤ 1000000 := by omega
  obtain ⟨bo, oo, co, rfl, hbo, hat⟩ := hl.at_ hM (N := N) (fun t ht => (hts t ht).trans hN) (by rw [← hN]; exact Nat.two_pow_pos n) hA
  have HBO := Lib.hid hbo
  obtain ⟨bA, oA, cA, kA0, hbA, kA1⟩ := hat A hA
  have HKA := Lib.hid kA0
  have HLA := Lib.hid kA1
  have HBA := Lib.hid hbA
  have qA : (A : Int) < (M : Int) := by omega
  obtain ⟨bB, oB, cB, kB0, hbB, kB1⟩ := hat B hB
  have HKB := Lib.hid kB0
  have HLB := Lib.hid kB1
  have HBB := Lib.hid hbB
  have qB : (B : Int) < (M : Int) := by omega
  obtain ⟨bC, oC, cC, kC0, hbC, kC1⟩ := hat C hC
  have HKC := Lib.hid kC0
  have HLC := Lib.hid kC1
  have HBC := Lib.hid hbC
  have qC : (C : Int) < (M : Int) := by omega
  clear hat hl hts hbo hM hM1 hA kA0 kA1 hbA hB kB0 kB1 hbB hC kC0 kC1 hbC
  clear hn hN hp
  go_enter Try.func26, Try.ntmps26
  obtain ⟨wb, hwb⟩ : ∃ wb, w.alloc (.cells #[.int .i64 1, .int .i64 (A : Int), .int .i64 (B : Int), .int .i64 (C : Int), vv] 51) = wb := ⟨_, rfl⟩
  have HWB := Lib.hid (show w.grownBy wb none from by rw [← hwb]; exact grown_alloc _ _)
  obtain ⟨bx, hbx⟩ : ∃ bx, w.heap.size = bx := ⟨_, rfl⟩
  have HC := Lib.hid (show wb.heap[bx]? = some (.cells #[.int .i64 1, .int .i64 (A : Int), .int .i64 (B : Int), .int .i64 (C : Int), vv] 51 (0, 0)) from by rw [← hwb, ← hbx]; exact (MapKept.heap_alloc w _).1)
  have HBX := Lib.hid hbx
  have y0 : wb.cell? ⟨bx, 0, none⟩ = some (.int .i64 1) := (cell_of HC.out).trans rfl
  go_wp2
  clear y0
  go_loopw [7, 8] (fun a j wr => ∃ i : Nat, j = .int .i64 (i : Int) ∧ i ≤ N ∧ Hid (BRow wb.heap.size wr a ((List.range i).map fun i => entI ts A B C i)) ∧ Hid (wb.grownBy wr none)) (fun _ j _ => N - (intOf j).toNat)
  case atStart => exact ⟨0, rfl, Nat.zero_le _, Lib.hid (by first | (rw [hwb]; exact BRow.made wb (Nat.le_refl _)) | (subst hwb; exact BRow.made _ (Nat.le_refl _))), Lib.hid (by first | (rw [hwb]; exact grown_alloc _ _) | (subst hwb; exact grown_alloc _ _))⟩
  case round =>
    obtain ⟨i, rfl, hk, hm, hb⟩ := hrel
    have HM := hm
    have HB := hb
    by_cases hlt : i < N
    · have q1 : (i : Int) < 2 ^ n := lt_pow HNN.out hlt
      have q2 : (i : Int) < (N : Int) := by omega
      have q64 : (i : Int) < 64 := by have := HN6.out; omega
      have HLT := Lib.hid hlt
      have hC := (grown_far HB.out (Array.getElem?_eq_some_iff.1 HC.out).1).trans HC.out
      have HCC := Lib.hid hC
      have x0 : wr.cell? ⟨bx, 0, none⟩ = some (.int .i64 1) := (cell_of hC).trans rfl
      have x1 : wr.cell? ⟨bx, 1, none⟩ = some (.int .i64 (A : Int)) := (cell_of hC).trans rfl
      have x2 : wr.cell? ⟨bx, 2, none⟩ = some (.int .i64 (B : Int)) := (cell_of hC).trans rfl
      have x3 : wr.cell? ⟨bx, 3, none⟩ = some (.int .i64 (C : Int)) := (cell_of hC).trans rfl
      have HWR := Lib.hid (grown_trans HWB.out HB.out)
      have QL := Lib.hid (show ((List.range i).map fun i => entI ts A B C i).length ≤ 1000000 from by rw [List.length_map, List.length_range]; have := HN6.out; omega)
      have kA0 := (World.cell?_of_block (a := ⟨bo, oo + A, none⟩) (grown_far HWR.out HBO.out)).trans HKA.out
      have kA1 := (World.cell?_of_block (a := ⟨bA, oA + i, none⟩) (grown_far HWR.out HBA.out)).trans (HLA.out i hlt)
      obtain ⟨a, ea⟩ : ∃ a, ent ts A i = a := ⟨_, rfl⟩
      rw [ea] at kA1
      have kB0 := (World.cell?_of_block (a := ⟨bo, oo + B, none⟩) (grown_far HWR.out HBO.out)).trans HKB.out
      have kB1 := (World.cell?_of_block (a := ⟨bB, oB + i, none⟩) (grown_far HWR.out HBB.out)).trans (HLB.out i hlt)
      obtain ⟨b, eb⟩ : ∃ b, ent ts B i = b := ⟨_, rfl⟩
      rw [eb] at kB1
      have kC0 := (World.cell?_of_block (a := ⟨bo, oo + C, none⟩) (grown_far HWR.out HBO.out)).trans HKC.out
      have kC1 := (World.cell?_of_block (a := ⟨bC, oC + i, none⟩) (grown_far HWR.out HBC.out)).trans (HLC.out i hlt)
      obtain ⟨c, ec⟩ : ∃ c, ent ts C i = c := ⟨_, rfl⟩
      rw [ec] at kC1
      have HX := Lib.hid (show (entI ts A B C i) = (iteB a b c) from by unfold entI; rw [ea, eb, ec])
      clear hC hk hm hb hlt ea eb ec
      cases a <;> cases b <;> cases c
      all_goals
        have QB := fun o : Obj => Lib.hid (show wb.heap.size ≤ (wr.alloc o).heap.size from Nat.le_trans HB.out.size (by simp))
        go_wp2_with (at_builtin; refine wpList_push _ rfl (.tmp 162) (.tmp 164) 32 rfl 4 i0 (.bool false) 1 Try.underlying32 hi0 hz0 hz1 hz2 rfl (by decide) wb.heap.size _ _ _ rfl (HM.out.alloc _) wr.heap.size 1 _ rfl (cell_new _ _ _) rfl QL.out (QB _).out ?_; intro o2 w5 hown2 hgrow2 _; have HO2 := Lib.hid hown2; have HG5 := Lib.hid hgrow2; clear hown2 hgrow2)
        go_roundw
        case rel => exact ⟨i + 1, by go_num, HLT.out, Lib.hid (by unfold BRow; rw [List.range_succ, List.map_append, List.map_append]; simpa [HX.out, iteB] using HO2.out), Lib.hid (grown_own (grown_trans HB.out (grown_alloc wr _)) (fun b hb => (HM.out.lt b hb).1) HG5.out)⟩
        case measure => simp [intOf]; have := HLT.out; omega
    · obtain rfl : i = N := by omega
      have q1 : ¬ (i : Int) < 2 ^ n := not_lt_pow HNN.out
      clear hk hlt hm hb
      go_wp2
      go_ret
      exact ⟨_, rfl, World.ownsRow.mono HM.out (by have := HWB.out.size; have := HBX.out; omega), grown_trans HWB.out HB.out⟩
set_option maxHeartbeats 8000000 in
set_option maxRecDepth 100000 in
theorem rdo2_any {w : World} {lv vv : Value} {n A B C : Nat} {ts : List (List Bool)} (hl : Tabs w lv ts) (hn : n ≤ 6) (hts : ∀ t ∈ ts, t.length = 2 ^ n) (hM1 : ts.length ≤ 1000000) (hA : A < ts.length) :
    Calls Try.prog 26 #[.int .i64 (n : Int), .agg #[.int .i64 2, .int .i64 (A : Int), .int .i64 (B : Int), .int .i64 (C : Int), vv], lv] w fun e w' => ∃ v, e = .returned v ∧ BRow w.heap.size w' v ((List.range (2 ^ n)).map fun i => !(ent ts A i)) ∧ w.grownBy w' none := by
  obtain ⟨i0, hi0, hz0, hz1, hz2⟩ := info_parts info4
  have HN := Lib.hid hn
  obtain ⟨N, hN⟩ : ∃ N, 2 ^ n = N := ⟨_, rfl⟩
  have HNN := Lib.hid hN
  have hp := pow6 hn
  have HN6 := Lib.hid (show N ≤ 64 from by omega)
  rw [hN]
  have qn : (n : Int) ≤ 6 := by omega
  have qN : (N : Int) ≤ 64 := by omega
  have w1 : IntKind.u64.wrap (n : Int) = (n : Int) := IntWalk.u64_in _ (by omega)
  have w2 : IntKind.i64.wrap (2 ^ n) = 2 ^ n := wrap_pown hn
  obtain ⟨M, hM⟩ : ∃ M, ts.length = M := ⟨_, rfl⟩
  rw [hM] at hA hM1
  have qM : (M : Int) ≤ 1000000 := by omega
  obtain ⟨bo, oo, co, rfl, hbo, hat⟩ := hl.at_ hM (N := N) (fun t ht => (hts t ht).trans hN) (by rw [← hN]; exact Nat.two_pow_pos n) hA
  have HBO := Lib.hid hbo
  obtain ⟨bA, oA, cA, kA0, hbA, kA1⟩ := hat A hA
  have HKA := Lib.hid kA0
  have HLA := Lib.hid kA1
  have HBA := Lib.hid hbA
  have qA : (A : Int) < (M : Int) := by omega
  clear hat hl hts hbo hM hM1 hA kA0 kA1 hbA
  clear hn hN hp
  go_enter Try.func26, Try.ntmps26
  obtain ⟨wb, hwb⟩ : ∃ wb, w.alloc (.cells #[.int .i64 2, .int .i64 (A : Int), .int .i64 (B : Int), .int .i64 (C : Int), vv] 51) = wb := ⟨_, rfl⟩
  have HWB := Lib.hid (show w.grownBy wb none from by rw [← hwb]; exact grown_alloc _ _)
  obtain ⟨bx, hbx⟩ : ∃ bx, w.heap.size = bx := ⟨_, rfl⟩
  have HC := Lib.hid (show wb.heap[bx]? = some (.cells #[.int .i64 2, .int .i64 (A : Int), .int .i64 (B : Int), .int .i64 (C : Int), vv] 51 (0, 0)) from by rw [← hwb, ← hbx]; exact (MapKept.heap_alloc w _).1)
  have HBX := Lib.hid hbx
  have y0 : wb.cell? ⟨bx, 0, none⟩ = some (.int .i64 2) := (cell_of HC.out).trans rfl
  go_wp2
  clear y0
  go_loopw [7, 8] (fun a j wr => ∃ i : Nat, j = .int .i64 (i : Int) ∧ i ≤ N ∧ Hid (BRow wb.heap.size wr a ((List.range i).map fun i => !(ent ts A i))) ∧ Hid (wb.grownBy wr none)) (fun _ j _ => N - (intOf j).toNat)
  case atStart => exact ⟨0, rfl, Nat.zero_le _, Lib.hid (by first | (rw [hwb]; exact BRow.made wb (Nat.le_refl _)) | (subst hwb; exact BRow.made _ (Nat.le_refl _))), Lib.hid (by first | (rw [hwb]; exact grown_alloc _ _) | (subst hwb; exact grown_alloc _ _))⟩
  case round =>
    obtain ⟨i, rfl, hk, hm, hb⟩ := hrel
    have HM := hm
    have HB := hb
    by_cases hlt : i < N
    · have q1 : (i : Int) < 2 ^ n := lt_pow HNN.out hlt
      have q2 : (i : Int) < (N : Int) := by omega
      have q64 : (i : Int) < 64 := by have := HN6.out; omega
      have HLT := Lib.hid hlt
      have hC := (grown_far HB.out (Array.getElem?_eq_some_iff.1 HC.out).1).trans HC.out
      have HCC := Lib.hid hC
      have x0 : wr.cell? ⟨bx, 0, none⟩ = some (.int .i64 2) := (cell_of hC).trans rfl
      have x1 : wr.cell? ⟨bx, 1, none⟩ = some (.int .i64 (A : Int)) := (cell_of hC).trans rfl
      have x2 : wr.cell? ⟨bx, 2, none⟩ = some (.int .i64 (B : Int)) := (cell_of hC).trans rfl
      have x3 : wr.cell? ⟨bx, 3, none⟩ = some (.int .i64 (C : Int)) := (cell_of hC).trans rfl
      have HWR := Lib.hid (grown_trans HWB.out HB.out)
      have QL := Lib.hid (show ((List.range i).map fun i => !(ent ts A i)).length ≤ 1000000 from by rw [List.length_map, List.length_range]; have := HN6.out; omega)
      have kA0 := (World.cell?_of_block (a := ⟨bo, oo + A, none⟩) (grown_far HWR.out HBO.out)).trans HKA.out
      have kA1 := (World.cell?_of_block (a := ⟨bA, oA + i, none⟩) (grown_far HWR.out HBA.out)).trans (HLA.out i hlt)
      obtain ⟨a, ea⟩ : ∃ a, ent ts A i = a := ⟨_, rfl⟩
      rw [ea] at kA1
      have HX := Lib.hid (show (!(ent ts A i)) = (!a) from by rw [ea])
      clear hC hk hm hb hlt ea
      cases a
      all_goals
        have QB := fun o : Obj => Lib.hid (show wb.heap.size ≤ (wr.alloc o).heap.size from Nat.le_trans HB.out.size (by simp))
        go_wp2_with (at_builtin; refine wpList_push _ rfl (.tmp 162) (.tmp 164) 32 rfl 4 i0 (.bool false) 1 Try.underlying32 hi0 hz0 hz1 hz2 rfl (by decide) wb.heap.size _ _ _ rfl (HM.out.alloc _) wr.heap.size 1 _ rfl (cell_new _ _ _) rfl QL.out (QB _).out ?_; intro o2 w5 hown2 hgrow2 _; have HO2 := Lib.hid hown2; have HG5 := Lib.hid hgrow2; clear hown2 hgrow2)
        go_roundw
        case rel => exact ⟨i + 1, by go_num, HLT.out, Lib.hid (by unfold BRow; rw [List.range_succ, List.map_append, List.map_append]; simpa [HX.out, iteB] using HO2.out), Lib.hid (grown_own (grown_trans HB.out (grown_alloc wr _)) (fun b hb => (HM.out.lt b hb).1) HG5.out)⟩
        case measure => simp [intOf]; have := HLT.out; omega
    · obtain rfl : i = N := by omega
      have q1 : ¬ (i : Int) < 2 ^ n := not_lt_pow HNN.out
      clear hk hlt hm hb
      go_wp2
      go_ret
      exact ⟨_, rfl, World.ownsRow.mono HM.out (by have := HWB.out.size; have := HBX.out; omega), grown_trans HWB.out HB.out⟩
set_option maxHeartbeats 8000000 in
set_option maxRecDepth 100000 in
theorem rdo3_any {w : World} {lv vv : Value} {n A B C : Nat} {ts : List (List Bool)} (hl : Tabs w lv ts) (hn : n ≤ 6) (hts : ∀ t ∈ ts, t.length = 2 ^ n) (hM1 : ts.length ≤ 1000000) (hA : A < ts.length) (hB : B < ts.length) :
    Calls Try.prog 26 #[.int .i64 (n : Int), .agg #[.int .i64 3, .int .i64 (A : Int), .int .i64 (B : Int), .int .i64 (C : Int), vv], lv] w fun e w' => ∃ v, e = .returned v ∧ BRow w.heap.size w' v ((List.range (2 ^ n)).map fun i => (ent ts A i && ent ts B i)) ∧ w.grownBy w' none := by
  obtain ⟨i0, hi0, hz0, hz1, hz2⟩ := info_parts info4
  have HN := Lib.hid hn
  obtain ⟨N, hN⟩ : ∃ N, 2 ^ n = N := ⟨_, rfl⟩
  have HNN := Lib.hid hN
  have hp := pow6 hn
  have HN6 := Lib.hid (show N ≤ 64 from by omega)
  rw [hN]
  have qn : (n : Int) ≤ 6 := by omega
  have qN : (N : Int) ≤ 64 := by omega
  have w1 : IntKind.u64.wrap (n : Int) = (n : Int) := IntWalk.u64_in _ (by omega)
  have w2 : IntKind.i64.wrap (2 ^ n) = 2 ^ n := wrap_pown hn
  obtain ⟨M, hM⟩ : ∃ M, ts.length = M := ⟨_, rfl⟩
  rw [hM] at hA hB hM1
  have qM : (M : Int) ≤ 1000000 := by omega
  obtain ⟨bo, oo, co, rfl, hbo, hat⟩ := hl.at_ hM (N := N) (fun t ht => (hts t ht).trans hN) (by rw [← hN]; exact Nat.two_pow_pos n) hA
  have HBO := Lib.hid hbo
  obtain ⟨bA, oA, cA, kA0, hbA, kA1⟩ := hat A hA
  have HKA := Lib.hid kA0
  have HLA := Lib.hid kA1
  have HBA := Lib.hid hbA
  have qA : (A : Int) < (M : Int) := by omega
  obtain ⟨bB, oB, cB, kB0, hbB, kB1⟩ := hat B hB
  have HKB := Lib.hid kB0
  have HLB := Lib.hid kB1
  have HBB := Lib.hid hbB
  have qB : (B : Int) < (M : Int) := by omega
  clear hat hl hts hbo hM hM1 hA kA0 kA1 hbA hB kB0 kB1 hbB
  clear hn hN hp
  go_enter Try.func26, Try.ntmps26
  obtain ⟨wb, hwb⟩ : ∃ wb, w.alloc (.cells #[.int .i64 3, .int .i64 (A : Int), .int .i64 (B : Int), .int .i64 (C : Int), vv] 51) = wb := ⟨_, rfl⟩
  have HWB := Lib.hid (show w.grownBy wb none from by rw [← hwb]; exact grown_alloc _ _)
  obtain ⟨bx, hbx⟩ : ∃ bx, w.heap.size = bx := ⟨_, rfl⟩
  have HC := Lib.hid (show wb.heap[bx]? = some (.cells #[.int .i64 3, .int .i64 (A : Int), .int .i64 (B : Int), .int .i64 (C : Int), vv] 51 (0, 0)) from by rw [← hwb, ← hbx]; exact (MapKept.heap_alloc w _).1)
  have HBX := Lib.hid hbx
  have y0 : wb.cell? ⟨bx, 0, none⟩ = some (.int .i64 3) := (cell_of HC.out).trans rfl
  go_wp2
  clear y0
  go_loopw [7, 8] (fun a j wr => ∃ i : Nat, j = .int .i64 (i : Int) ∧ i ≤ N ∧ Hid (BRow wb.heap.size wr a ((List.range i).map fun i => (ent ts A i && ent ts B i))) ∧ Hid (wb.grownBy wr none)) (fun _ j _ => N - (intOf j).toNat)
  case atStart => exact ⟨0, rfl, Nat.zero_le _, Lib.hid (by first | (rw [hwb]; exact BRow.made wb (Nat.le_refl _)) | (subst hwb; exact BRow.made _ (Nat.le_refl _))), Lib.hid (by first | (rw [hwb]; exact grown_alloc _ _) | (subst hwb; exact grown_alloc _ _))⟩
  case round =>
    obtain ⟨i, rfl, hk, hm, hb⟩ := hrel
    have HM := hm
    have HB := hb
    by_cases hlt : i < N
    · have q1 : (i : Int) < 2 ^ n := lt_pow HNN.out hlt
      have q2 : (i : Int) < (N : Int) := by omega
      have q64 : (i : Int) < 64 := by have := HN6.out; omega
      have HLT := Lib.hid hlt
      have hC := (grown_far HB.out (Array.getElem?_eq_some_iff.1 HC.out).1).trans HC.out
      have HCC := Lib.hid hC
      have x0 : wr.cell? ⟨bx, 0, none⟩ = some (.int .i64 3) := (cell_of hC).trans rfl
      have x1 : wr.cell? ⟨bx, 1, none⟩ = some (.int .i64 (A : Int)) := (cell_of hC).trans rfl
      have x2 : wr.cell? ⟨bx, 2, none⟩ = some (.int .i64 (B : Int)) := (cell_of hC).trans rfl
      have x3 : wr.cell? ⟨bx, 3, none⟩ = some (.int .i64 (C : Int)) := (cell_of hC).trans rfl
      have HWR := Lib.hid (grown_trans HWB.out HB.out)
      have QL := Lib.hid (show ((List.range i).map fun i => (ent ts A i && ent ts B i)).length ≤ 1000000 from by rw [List.length_map, List.length_range]; have := HN6.out; omega)
      have kA0 := (World.cell?_of_block (a := ⟨bo, oo + A, none⟩) (grown_far HWR.out HBO.out)).trans HKA.out
      have kA1 := (World.cell?_of_block (a := ⟨bA, oA + i, none⟩) (grown_far HWR.out HBA.out)).trans (HLA.out i hlt)
      obtain ⟨a, ea⟩ : ∃ a, ent ts A i = a := ⟨_, rfl⟩
      rw [ea] at kA1
      have kB0 := (World.cell?_of_block (a := ⟨bo, oo + B, none⟩) (grown_far HWR.out HBO.out)).trans HKB.out
      have kB1 := (World.cell?_of_block (a := ⟨bB, oB + i, none⟩) (grown_far HWR.out HBB.out)).trans (HLB.out i hlt)
      obtain ⟨b, eb⟩ : ∃ b, ent ts B i = b := ⟨_, rfl⟩
      rw [eb] at kB1
      have HX := Lib.hid (show ((ent ts A i && ent ts B i)) = ((a && b)) from by rw [ea, eb])
      clear hC hk hm hb hlt ea eb
      cases a <;> cases b
      all_goals
        have QB := fun o : Obj => Lib.hid (show wb.heap.size ≤ (wr.alloc o).heap.size from Nat.le_trans HB.out.size (by simp))
        go_wp2_with (at_builtin; refine wpList_push _ rfl (.tmp 162) (.tmp 164) 32 rfl 4 i0 (.bool false) 1 Try.underlying32 hi0 hz0 hz1 hz2 rfl (by decide) wb.heap.size _ _ _ rfl (HM.out.alloc _) wr.heap.size 1 _ rfl (cell_new _ _ _) rfl QL.out (QB _).out ?_; intro o2 w5 hown2 hgrow2 _; have HO2 := Lib.hid hown2; have HG5 := Lib.hid hgrow2; clear hown2 hgrow2)
        go_roundw
        case rel => exact ⟨i + 1, by go_num, HLT.out, Lib.hid (by unfold BRow; rw [List.range_succ, List.map_append, List.map_append]; simpa [HX.out, iteB] using HO2.out), Lib.hid (grown_own (grown_trans HB.out (grown_alloc wr _)) (fun b hb => (HM.out.lt b hb).1) HG5.out)⟩
        case measure => simp [intOf]; have := HLT.out; omega
    · obtain rfl : i = N := by omega
      have q1 : ¬ (i : Int) < 2 ^ n := not_lt_pow HNN.out
      clear hk hlt hm hb
      go_wp2
      go_ret
      exact ⟨_, rfl, World.ownsRow.mono HM.out (by have := HWB.out.size; have := HBX.out; omega), grown_trans HWB.out HB.out⟩
set_option maxHeartbeats 8000000 in
set_option maxRecDepth 100000 in
theorem rdo4_any {w : World} {lv vv : Value} {n A B C : Nat} {ts : List (List Bool)} (hl : Tabs w lv ts) (hn : n ≤ 6) (hts : ∀ t ∈ ts, t.length = 2 ^ n) (hM1 : ts.length ≤ 1000000) (hA : A < ts.length) (hB : B < ts.length) :
    Calls Try.prog 26 #[.int .i64 (n : Int), .agg #[.int .i64 4, .int .i64 (A : Int), .int .i64 (B : Int), .int .i64 (C : Int), vv], lv] w fun e w' => ∃ v, e = .returned v ∧ BRow w.heap.size w' v ((List.range (2 ^ n)).map fun i => (ent ts A i || ent ts B i)) ∧ w.grownBy w' none := by
  obtain ⟨i0, hi0, hz0, hz1, hz2⟩ := info_parts info4
  have HN := Lib.hid hn
  obtain ⟨N, hN⟩ : ∃ N, 2 ^ n = N := ⟨_, rfl⟩
  have HNN := Lib.hid hN
  have hp := pow6 hn
  have HN6 := Lib.hid (show N ≤ 64 from by omega)
  rw [hN]
  have qn : (n : Int) ≤ 6 := by omega
  have qN : (N : Int) ≤ 64 := by omega
  have w1 : IntKind.u64.wrap (n : Int) = (n : Int) := IntWalk.u64_in _ (by omega)
  have w2 : IntKind.i64.wrap (2 ^ n) = 2 ^ n := wrap_pown hn
  obtain ⟨M, hM⟩ : ∃ M, ts.length = M := ⟨_, rfl⟩
  rw [hM] at hA hB hM1
  have qM : (M : Int) ≤ 1000000 := by omega
  obtain ⟨bo, oo, co, rfl, hbo, hat⟩ := hl.at_ hM (N := N) (fun t ht => (hts t ht).trans hN) (by rw [← hN]; exact Nat.two_pow_pos n) hA
  have HBO := Lib.hid hbo
  obtain ⟨bA, oA, cA, kA0, hbA, kA1⟩ := hat A hA
  have HKA := Lib.hid kA0
  have HLA := Lib.hid kA1
  have HBA := Lib.hid hbA
  have qA : (A : Int) < (M : Int) := by omega
  obtain ⟨bB, oB, cB, kB0, hbB, kB1⟩ := hat B hB
  have HKB := Lib.hid kB0
  have HLB := Lib.hid kB1
  have HBB := Lib.hid hbB
  have qB : (B : Int) < (M : Int) := by omega
  clear hat hl hts hbo hM hM1 hA kA0 kA1 hbA hB kB0 kB1 hbB
  clear hn hN hp
  go_enter Try.func26, Try.ntmps26
  obtain ⟨wb, hwb⟩ : ∃ wb, w.alloc (.cells #[.int .i64 4, .int .i64 (A : Int), .int .i64 (B : Int), .int .i64 (C : Int), vv] 51) = wb := ⟨_, rfl⟩
  have HWB := Lib.hid (show w.grownBy wb none from by rw [← hwb]; exact grown_alloc _ _)
  obtain ⟨bx, hbx⟩ : ∃ bx, w.heap.size = bx := ⟨_, rfl⟩
  have HC := Lib.hid (show wb.heap[bx]? = some (.cells #[.int .i64 4, .int .i64 (A : Int), .int .i64 (B : Int), .int .i64 (C : Int), vv] 51 (0, 0)) from by rw [← hwb, ← hbx]; exact (MapKept.heap_alloc w _).1)
  have HBX := Lib.hid hbx
  have y0 : wb.cell? ⟨bx, 0, none⟩ = some (.int .i64 4) := (cell_of HC.out).trans rfl
  go_wp2
  clear y0
  go_loopw [7, 8] (fun a j wr => ∃ i : Nat, j = .int .i64 (i : Int) ∧ i ≤ N ∧ Hid (BRow wb.heap.size wr a ((List.range i).map fun i => (ent ts A i || ent ts B i))) ∧ Hid (wb.grownBy wr none)) (fun _ j _ => N - (intOf j).toNat)
  case atStart => exact ⟨0, rfl, Nat.zero_le _, Lib.hid (by first | (rw [hwb]; exact BRow.made wb (Nat.le_refl _)) | (subst hwb; exact BRow.made _ (Nat.le_refl _))), Lib.hid (by first | (rw [hwb]; exact grown_alloc _ _) | (subst hwb; exact grown_alloc _ _))⟩
  case round =>
    obtain ⟨i, rfl, hk, hm, hb⟩ := hrel
    have HM := hm
    have HB := hb
    by_cases hlt : i < N
    · have q1 : (i : Int) < 2 ^ n := lt_pow HNN.out hlt
      have q2 : (i : Int) < (N : Int) := by omega
      have q64 : (i : Int) < 64 := by have := HN6.out; omega
      have HLT := Lib.hid hlt
      have hC := (grown_far HB.out (Array.getElem?_eq_some_iff.1 HC.out).1).trans HC.out
      have HCC := Lib.hid hC
      have x0 : wr.cell? ⟨bx, 0, none⟩ = some (.int .i64 4) := (cell_of hC).trans rfl
      have x1 : wr.cell? ⟨bx, 1, none⟩ = some (.int .i64 (A : Int)) := (cell_of hC).trans rfl
      have x2 : wr.cell? ⟨bx, 2, none⟩ = some (.int .i64 (B : Int)) := (cell_of hC).trans rfl
      have x3 : wr.cell? ⟨bx, 3, none⟩ = some (.int .i64 (C : Int)) := (cell_of hC).trans rfl
      have HWR := Lib.hid (grown_trans HWB.out HB.out)
      have QL := Lib.hid (show ((List.range i).map fun i => (ent ts A i || ent ts B i)).length ≤ 1000000 from by rw [List.length_map, List.length_range]; have := HN6.out; omega)
      have kA0 := (World.cell?_of_block (a := ⟨bo, oo + A, none⟩) (grown_far HWR.out HBO.out)).trans HKA.out
      have kA1 := (World.cell?_of_block (a := ⟨bA, oA + i, none⟩) (grown_far HWR.out HBA.out)).trans (HLA.out i hlt)
      obtain ⟨a, ea⟩ : ∃ a, ent ts A i = a := ⟨_, rfl⟩
      rw [ea] at kA1
      have kB0 := (World.cell?_of_block (a := ⟨bo, oo + B, none⟩) (grown_far HWR.out HBO.out)).trans HKB.out
      have kB1 := (World.cell?_of_block (a := ⟨bB, oB + i, none⟩) (grown_far HWR.out HBB.out)).trans (HLB.out i hlt)
      obtain ⟨b, eb⟩ : ∃ b, ent ts B i = b := ⟨_, rfl⟩
      rw [eb] at kB1
      have HX := Lib.hid (show ((ent ts A i || ent ts B i)) = ((a || b)) from by rw [ea, eb])
      clear hC hk hm hb hlt ea eb
      cases a <;> cases b
      all_goals
        have QB := fun o : Obj => Lib.hid (show wb.heap.size ≤ (wr.alloc o).heap.size from Nat.le_trans HB.out.size (by simp))
        go_wp2_with (at_builtin; refine wpList_push _ rfl (.tmp 162) (.tmp 164) 32 rfl 4 i0 (.bool false) 1 Try.underlying32 hi0 hz0 hz1 hz2 rfl (by decide) wb.heap.size _ _ _ rfl (HM.out.alloc _) wr.heap.size 1 _ rfl (cell_new _ _ _) rfl QL.out (QB _).out ?_; intro o2 w5 hown2 hgrow2 _; have HO2 := Lib.hid hown2; have HG5 := Lib.hid hgrow2; clear hown2 hgrow2)
        go_roundw
        case rel => exact ⟨i + 1, by go_num, HLT.out, Lib.hid (by unfold BRow; rw [List.range_succ, List.map_append, List.map_append]; simpa [HX.out, iteB] using HO2.out), Lib.hid (grown_own (grown_trans HB.out (grown_alloc wr _)) (fun b hb => (HM.out.lt b hb).1) HG5.out)⟩
        case measure => simp [intOf]; have := HLT.out; omega
    · obtain rfl : i = N := by omega
      have q1 : ¬ (i : Int) < 2 ^ n := not_lt_pow HNN.out
      clear hk hlt hm hb
      go_wp2
      go_ret
      exact ⟨_, rfl, World.ownsRow.mono HM.out (by have := HWB.out.size; have := HBX.out; omega), grown_trans HWB.out HB.out⟩

end Go.Proofs.Ytailpphafoamfaa
