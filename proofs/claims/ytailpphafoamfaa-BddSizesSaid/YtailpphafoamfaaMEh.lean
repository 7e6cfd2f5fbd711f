/- How many nodes: the reference of the law. -/
import Derived.Test.YtailpphafoamfaaPzas
import Derived.Test.YtailpphafoamfaaMMp
set_option linter.all false
namespace Go.Proofs.Ytailpphafoamfaa
open Go Go.RowKit Go.Maps


section
/-- A part of a table's row reads as that part. -/
theorem cut_bools {w : World} {b off N : Nat} {T : List Bool} (hc : ∀ j, j < N → w.cell? ⟨b, off + j, none⟩ = some (.bool (T.getD j false))) (hl : T.length = N) (hb : b < w.heap.size) (a z c' : Nat) (h2 : a + z ≤ N) : Bools w (.slice (some ⟨b, off + a, none⟩) z c') (pieceT T z a) := by
  have hlen : (pieceT T z a).length = z := by unfold pieceT; rw [List.length_take, List.length_drop]; omega
  refine ⟨_, c', by rw [hlen], fun _ => ⟨b, off + a, rfl, hb, fun j x hx => ?_⟩⟩
  have hj : j < z := by have := (List.getElem?_eq_some_iff.1 hx).1; omega
  have h3 := hc (a + j) (by omega)
  rw [← Nat.add_assoc] at h3
  rw [h3]
  unfold pieceT at hx
  rw [List.getElem?_take_of_lt hj, List.getElem?_drop] at hx
  rw [List.getD_eq_getElem?_getD, hx]
  rfl
theorem lvl_le {t : List Bool} {z : Nat} {ps : List (List Bool)} : ∀ c, (lvl t z c ps).length ≤ ps.length + c
  | 0 => Nat.le_refl _
  | c + 1 => by
    rw [lvl_succ]
    have := lvl_le (t := t) (z := z) (ps := ps) c
    unfold addP
    split
    · omega
    · split
      · omega
      · rw [List.length_append]; simp; omega
theorem parts_le {n : Nat} {t : List Bool} : ∀ w, (partsT n t w).length ≤ 2 ^ w
  | 0 => by simp [partsT]
  | w + 1 => by
    rw [parts_succ]
    have := parts_le (n := n) (t := t) w
    have := lvl_le (t := t) (z := 2 ^ (n - w)) (ps := partsT n t w) (2 ^ w)
    rw [Nat.pow_succ]
    omega
/-- The parts that were found: a row of the call's own, of pieces of what was there before. -/
def PAt (w0 w : World) (v : Value) (ps : List (List Bool)) : Prop := ∃ us : List Value, w.ownsRow w0.heap.size 32 1 v us.length us ∧ us.length = ps.length ∧ (∀ (j : Nat) (u : Value), us[j]? = some u → Bools w0 u (ps.getD j []) ∧ u.oneCell' = true ∧ (ps.getD j []).length ≤ 1000000) ∧ w0.grownBy w none
theorem PAt.form {w0 w : World} {v : Value} {ps : List (List Bool)} (h : PAt w0 w v ps) : ∃ A c, v = .slice A ps.length c := by
  obtain ⟨us, ⟨-, h2⟩, h3, -⟩ := h
  rcases h2 with ⟨rfl, h4⟩ | ⟨g, cap, cur, rfl, -⟩
  · exact ⟨none, 0, by rw [← h3, h4]⟩
  · exact ⟨_, _, by rw [h3]⟩
theorem PAt.grown {w0 w w' : World} {v : Value} {ps : List (List Bool)} (h : PAt w0 w v ps) (hg : w.grownBy w' none) : PAt w0 w' v ps := by
  obtain ⟨us, h1, h2, h3, h4⟩ := h
  refine ⟨us, World.ownsRow.kept h1 hg ?_, h2, h3, grown_trans h4 hg⟩
  cases v.ownBlock with
  | none => exact .inl rfl
  | some k => exact .inr (by simp)
theorem PAt.at_ {w0 w : World} {v : Value} {ps : List (List Bool)} (h : PAt w0 w v ps) {k : Nat} (hk : k < ps.length) : ∃ b c u, v = .slice (some ⟨b, 0, none⟩) ps.length c ∧ w.cell? ⟨b, k, none⟩ = some u ∧ Bools w u (ps.getD k []) ∧ (ps.getD k []).length ≤ 1000000 := by
  obtain ⟨us, h1, h2, h3, h4⟩ := h
  have h0 := h1
  obtain ⟨-, h5⟩ := h1
  rcases h5 with ⟨-, h6⟩ | ⟨g, cap, cur, rfl, -⟩
  · omega
  · have hk' : k < us.length := by omega
    have h8 := World.ownsRow.cells (g := g) h0 rfl k us[k] (List.getElem?_eq_getElem hk')
    refine ⟨g, cap, us[k], by rw [h2], ?_, (h3 k us[k] (List.getElem?_eq_getElem hk')).1.grown h4, (h3 k us[k] (List.getElem?_eq_getElem hk')).2.2⟩
    unfold Addr.add at h8
    by_cases e : k = 0
    · subst e; simpa using h8
    · simpa [e] using h8
theorem piece_len {n v c N : Nat} {T : List Bool} (hT : T.length = N) (hN : 2 ^ n = N) (hv : v ≤ n) (hc : c < 2 ^ v) : c * 2 ^ (n - v) + 2 ^ (n - v) ≤ N ∧ (pieceT T (2 ^ (n - v)) (c * 2 ^ (n - v))).length = 2 ^ (n - v) := by
  have hp : 2 ^ n = 2 ^ v * 2 ^ (n - v) := by rw [← Nat.pow_add]; congr 1; omega
  have hle : (c + 1) * 2 ^ (n - v) ≤ 2 ^ v * 2 ^ (n - v) := Nat.mul_le_mul_right _ hc
  rw [Nat.add_mul, Nat.one_mul] at hle
  refine ⟨by omega, ?_⟩
  unfold pieceT
  rw [List.length_take, List.length_drop]
  omega
theorem info32p : (Try.prog.info? 32).map (fun i => (i.zero, i.size, i.bytes)) = some (some (.slice none 0 0), 1, 24) := by kernel_rfl
theorem PAt.gr {w0 w : World} {v : Value} {ps : List (List Bool)} (h : PAt w0 w v ps) : w0.grownBy w none := by
  obtain ⟨us, h1, h2, h3, h4⟩ := h
  exact h4
/-- A part more. -/
theorem PAt.more {w0 w1 w2 : World} {v v' u : Value} {us : List Value} {ps : List (List Bool)} {p : List Bool} (hrow : w1.ownsRow w0.heap.size 32 1 v us.length us) (hul : us.length = ps.length) (hus : ∀ (j : Nat) (u : Value), us[j]? = some u → Bools w0 u (ps.getD j []) ∧ u.oneCell' = true ∧ (ps.getD j []).length ≤ 1000000) (hg : w0.grownBy w1 none)
    (h2 : w2.ownsRow w0.heap.size 32 1 v' (us.length + 1) (us ++ [u])) (hg2 : w1.grownBy w2 v.ownBlock) (hu : Bools w0 u p) (h1 : u.oneCell' = true) (hpl : p.length ≤ 1000000) : PAt w0 w2 v' (ps ++ [p]) := by
  refine ⟨us ++ [u], by rw [List.length_append]; exact h2, by simp [hul], fun j x hx => ?_, grown_own hg (fun k hk => (hrow.lt k hk).1) hg2⟩
  by_cases hj : j < us.length
  · rw [List.getElem?_append_left hj] at hx
    have e : (ps ++ [p]).getD j [] = ps.getD j [] := by rw [List.getD_eq_getElem?_getD, List.getD_eq_getElem?_getD, List.getElem?_append_left (by omega)]
    rw [e]
    exact hus j x hx
  · have hl := (List.getElem?_eq_some_iff.1 hx).1
    simp at hl
    obtain rfl : j = us.length := by omega
    simp at hx
    subst hx
    have e : (ps ++ [p]).getD us.length [] = p := by rw [hul]; simp [List.getD_eq_getElem?_getD]
    rw [e]
    exact ⟨hu, h1, hpl⟩
theorem piece_half {T : List Bool} {z h a : Nat} (hz : 2 * h = z) : (pieceT T z a).take (z / 2) = pieceT T h a ∧ (pieceT T z a).drop (z / 2) = pieceT T h (a + h) := by
  have e : z / 2 = h := by omega
  unfold pieceT
  rw [e]
  refine ⟨?_, ?_⟩
  · rw [List.take_take, Nat.min_eq_left (by omega)]
  · rw [List.drop_take, List.drop_drop, show z - h = h from by omega]
theorem has_next {ps : List (List Bool)} {P : List Bool} {k : Nat} (hk : k < ps.length) : decide (P ∈ ps.take (k + 1)) = (decide (P ∈ ps.take k) || decide (ps.getD k [] = P)) := by
  have e : ps.getD k [] = ps[k] := by rw [List.getD_eq_getElem?_getD, List.getElem?_eq_getElem hk]; rfl
  rw [List.take_succ_eq_append_getElem hk, e, ← Bool.decide_or]
  congr 1
  rw [List.mem_append, List.mem_singleton]
  exact propext (or_congr_right eq_comm)
end

section
variable {w : World} {b off N c n : Nat} {T : List Bool}
set_option maxHeartbeats 8000000 in
set_option maxRecDepth 100000 in
theorem parts_any (hcl : ∀ j, j < N → w.cell? ⟨b, off + j, none⟩ = some (.bool (T.getD j false))) (hT : T.length = N) (hN : 2 ^ n = N) (hn : n ≤ 5) (hb : b < w.heap.size) (hcap : N ≤ c) :
    Calls Try.prog 21 #[.slice (some ⟨b, off, none⟩) N c, .int .i64 (n : Int)] w fun e w' => e = .returned (.int .i64 ((partsT n T n).length : Int)) ∧ w.grownBy w' none := by
  have HCL := Lib.hid hcl
  have HT := Lib.hid hT
  have HN := Lib.hid hN
  have HNL := Lib.hid hn
  have HB := Lib.hid hb
  have HCAP := Lib.hid hcap
  have hN32 : N ≤ 32 := by rw [← hN]; exact Nat.pow_le_pow_right (by omega) hn
  have qn : (n : Int) ≤ 5 := by omega
  have qN : (N : Int) ≤ 32 := by omega
  have qcap : (N : Int) ≤ (c : Int) := by omega
  clear hcl hT hN hn hb hcap
  go_enter Try.func21, Try.ntmps21
  go_wp2
  go_loopw [5, 6] (fun p j wr => ∃ v : Nat, j = .int .i64 (v : Int) ∧ v ≤ n ∧ Hid (PAt w wr p (partsT n T v))) (fun _ j _ => n - (intOf j).toNat)
  case atStart => exact ⟨0, rfl, Nat.zero_le _, Lib.hid ⟨[], World.ownsRow_made w #[] 0 (Nat.le_refl _) (Nat.zero_le _) rfl, rfl, fun j u h => by simp at h, grown_alloc _ _⟩⟩
  case round =>
    obtain ⟨v, rfl, hk, hp⟩ := hrel
    have HP := hp
    by_cases hlt : v < n
    · have HLT := Lib.hid hlt
      obtain ⟨s, hs⟩ : ∃ s, n - v = s := ⟨_, rfl⟩
      obtain ⟨h, hh⟩ : ∃ h, 2 ^ (s - 1) = h := ⟨_, rfl⟩
      obtain ⟨z, hz⟩ : ∃ z, 2 * h = z := ⟨_, rfl⟩
      have hzs : 2 ^ s = z := by
        obtain ⟨s1, rfl⟩ : ∃ s1, s = s1 + 1 := ⟨s - 1, by omega⟩
        rw [← hz, ← hh, Nat.pow_succ, Nat.add_sub_cancel]; omega
      obtain ⟨C, hC⟩ : ∃ C, 2 ^ v = C := ⟨_, rfl⟩
      have hCz : C * z = N := by rw [← HN.out, ← hC, ← hzs, ← hs, ← Nat.pow_add]; congr 1; omega
      have hzp : 0 < z := by rw [← hzs]; exact Nat.two_pow_pos s
      have HS := Lib.hid (show n - v = s ∧ 2 ^ (s - 1) = h ∧ 2 * h = z ∧ 2 ^ s = z ∧ 2 ^ v = C ∧ C * z = N ∧ 0 < z from ⟨hs, hh, hz, hzs, hC, hCz, hzp⟩)
      have hzN : z ≤ N := by rw [← hCz, ← hC]; exact Nat.le_mul_of_pos_left _ (Nat.two_pow_pos v)
      have q1 : (v : Int) < (n : Int) := by omega
      have qs : (n : Int) - (v : Int) = (s : Int) := by omega
      have ws : IntKind.i64.wrap ((s : Nat) : Int) = (s : Int) := IntWalk.i64_in _ (by omega)
      have wu : IntKind.u64.wrap ((s : Nat) : Int) = (s : Int) := IntWalk.u64_in _ (by omega)
      have qz : (2 : Int) ^ s = (z : Int) := by rw [← hzs]; simp
      have wz : IntKind.i64.wrap ((z : Nat) : Int) = (z : Int) := IntWalk.i64_in _ (by omega)
      clear hs hh hz hzs hC hCz hlt hk hp
      obtain ⟨wo, rfl⟩ : ∃ wo, wo = wr := ⟨_, rfl⟩
      go_wp2
      go_loopw [5, 8] (fun p j WW => ∃ i a : Nat, j = .int .i64 (a : Int) ∧ i ≤ C ∧ Hid (a = i * z) ∧ Hid (PAt w WW p (lvl T z i (partsT n T v)))) (fun _ j _ => N - (intOf j).toNat)
      case atStart => exact ⟨0, 0, rfl, Nat.zero_le _, Lib.hid (by simp), HP⟩
      case round =>
        obtain ⟨i, a, rfl, hk2, ha, hp2⟩ := hrel
        have HA := ha
        have HP2 := hp2
        by_cases hlt2 : i < C
        · have HLT2 := Lib.hid hlt2
          have haz : a + z ≤ N := by
            have h1 := HA.out
            have h2 : (i + 1) * z ≤ C * z := Nat.mul_le_mul_right _ hlt2
            have h3 := HS.out.2.2.2.2.2.1
            rw [Nat.add_mul, Nat.one_mul] at h2
            omega
          have HAZ := Lib.hid haz
          have q2 : (a : Int) < (N : Int) := by omega
          obtain ⟨y, hy⟩ : ∃ y, a + z = y := ⟨_, rfl⟩
          have HY := Lib.hid hy
          have qaz : ((a : Int) + (z : Int)) = (y : Int) := by omega
          have waz : IntKind.i64.wrap (y : Int) = (y : Int) := IntWalk.i64_in _ (by omega)
          have qay : (a : Int) ≤ (y : Int) := by omega
          have qyc : (y : Int) ≤ (c : Int) := by omega
          have qya : (y - a) = z := by omega
          clear hlt2 hk2 ha hp2 hy haz
          go_wp2
          clear qya qay qyc
          have HZH := Lib.hid (piece_half (T := T) (a := a) HS.out.2.2.1)
          have qd : (z : Int).tdiv 2 = (h : Int) := by
            rw [show (z : Int) = 2 * (h : Int) from by have := HS.out.2.2.1; omega]
            exact Int.mul_tdiv_cancel_left _ (by decide)
          have wh : IntKind.i64.wrap (h : Int) = (h : Int) := IntWalk.i64_in _ (by have := HS.out.2.2.1; have := HAZ.out; omega)
          have qhz : (h : Int) ≤ (z : Int) := by have := HS.out.2.2.1; omega
          have qh1 : (h : Int) ≤ ((c - a : Nat) : Int) := by have := HS.out.2.2.1; have := HAZ.out; have := HCAP.out; omega
          have qzh : z - h = h := by have := HS.out.2.2.1; omega
          have qch : ¬ (c - a = h) := by have := HS.out.2.2.1; have := HAZ.out; have := HCAP.out; have := HS.out.2.2.2.2.2.2; omega
          have HGD := Lib.hid (grown_trans HP2.out.gr (grown_drewN wr 1))
          have HCUT := Lib.hid (fun (W : World) (hW : w.grownBy W none) (x y c' : Nat) (hxy : x + y ≤ N) => cut_bools (w := W) (fun j hj => (World.cell?_of_block (a := ⟨b, off + j, none⟩) (grown_far hW HB.out)).trans (HCL.out j hj)) HT.out (Nat.lt_of_lt_of_le HB.out hW.size) x y c' hxy)
          have HPL := Lib.hid (show ∀ x y, x + y ≤ N → (pieceT T y x).length ≤ 1000000 from fun x y hxy => by
            unfold pieceT
            rw [List.length_take]
            omega)
          have HSAME := Lib.hid (same_any (w := World.drew wr) (HCUT.out _ HGD.out a h (c - a) (by have := HS.out.2.2.1; have := HAZ.out; omega)) (show Bools (World.drew wr) (.slice (some ⟨b, off + a + h, none⟩) h (c - a - h)) (pieceT T h (a + h)) from by rw [Nat.add_assoc]; exact HCUT.out _ HGD.out (a + h) h (c - a - h) (by have := HS.out.2.2.1; have := HAZ.out; omega)) ⟨HPL.out _ _ (by have := HS.out.2.2.1; have := HAZ.out; omega), HPL.out _ _ (by have := HS.out.2.2.1; have := HAZ.out; omega)⟩)
          obtain ⟨d, hd⟩ : ∃ d, decide (pieceT T h a = pieceT T h (a + h)) = d := ⟨_, rfl⟩
          rw [hd] at HSAME
          have HD := Lib.hid hd
          clear hd
          refine wp_region_T (S := fun _ => True) (tail := fun _ => false) (by kernel_rfl) ?_
          change wpAnyT _ _ _ _ _ _ _ _ _ (World.drew wr)
          refine tk 0 36 (.slice (some ⟨b, off + a, none⟩) z (c - a)) trivial ?y0 ?_
          case y0 =>
            intro w' hw'
            go_simp
          try simp only [Act.put, List.setIfInBounds_toArray, List.set_cons_zero, List.set_cons_succ]
          refine tk 1 37 (.int .i64 ((z : Nat) : Int)) trivial ?y1 ?_
          case y1 =>
            intro w' hw'
            go_simp
          try simp only [Act.put, List.setIfInBounds_toArray, List.set_cons_zero, List.set_cons_succ]
          refine tk 2 38 (.int .i64 ((h : Nat) : Int)) trivial ?y2 ?_
          case y2 =>
            intro w' hw'
            go_simp
          try simp only [Act.put, List.setIfInBounds_toArray, List.set_cons_zero, List.set_cons_succ]
          refine tk 3 39 (.slice (some ⟨b, off + a, none⟩) h (c - a)) trivial ?y3 ?_
          case y3 =>
            intro w' hw'
            go_simp
          try simp only [Act.put, List.setIfInBounds_toArray, List.set_cons_zero, List.set_cons_succ]
          refine tk 4 40 (.slice (some ⟨b, off + a, none⟩) z (c - a)) trivial ?y4 ?_
          case y4 =>
            intro w' hw'
            go_simp
          try simp only [Act.put, List.setIfInBounds_toArray, List.set_cons_zero, List.set_cons_succ]
          refine tk 5 41 (.int .i64 ((z : Nat) : Int)) trivial ?y5 ?_
          case y5 =>
            intro w' hw'
            go_simp
          try simp only [Act.put, List.setIfInBounds_toArray, List.set_cons_zero, List.set_cons_succ]
          refine tk 6 42 (.int .i64 ((h : Nat) : Int)) trivial ?y6 ?_
          case y6 =>
            intro w' hw'
            go_simp
          try simp only [Act.put, List.setIfInBounds_toArray, List.set_cons_zero, List.set_cons_succ]
          refine tk 7 43 (.slice (some ⟨b, off + a + h, none⟩) h (c - a - h)) trivial ?y7 ?_
          case y7 =>
            intro w' hw'
            go_simp
          try simp only [Act.put, List.setIfInBounds_toArray, List.set_cons_zero, List.set_cons_succ]
          refine on 8 (fun K hK => ?_)
          go_simp
          refine (HSAME.out).mono ?_
          rintro e z1 ⟨rfl, hg1⟩
          have HG1 := Lib.hid hg1
          clear hg1
          refine hK.out _ _ (fun _ => trivial) ?_
          clear hK K
          try simp only [Act.put, List.setIfInBounds_toArray, List.set_cons_zero, List.set_cons_succ]
          refine dn ?_
          have HP3 := Lib.hid (HP2.out.grown (grown_trans (grown_drewN wr 1) HG1.out))
          clear HSAME qd wh qhz qh1 qzh qch
          cases d with
          | true =>
              go_wp2
              go_roundw
              case rel => exact ⟨i + 1, y, rfl, HLT2.out, Lib.hid (by rw [← HY.out, HA.out, Nat.add_mul, Nat.one_mul]), Lib.hid (by rw [lvl_succ, ← HA.out]; unfold addP; rw [if_pos (by rw [HZH.out.1, HZH.out.2]; simpa using HD.out)]; exact HP3.out)⟩
              case measure => simp [intOf]; have := HY.out; have := HAZ.out; have := HS.out.2.2.2.2.2.2; omega
          | false =>
              obtain ⟨Ap, cp, rfl⟩ := HP3.out.form
              obtain ⟨ps, hps⟩ : ∃ ps, lvl T z i (partsT n T v) = ps := ⟨_, rfl⟩
              rw [hps] at HP3
              have HPS := Lib.hid hps
              obtain ⟨M, hM⟩ : ∃ M, ps.length = M := ⟨_, rfl⟩
              have hM1 : M ≤ 1000 := by
                have h1 := lvl_le (t := T) (z := z) (ps := partsT n T v) i
                have h2 := parts_le (n := n) (t := T) v
                rw [hps, hM] at h1
                rw [HS.out.2.2.2.2.1] at h2
                have h3 := HLT2.out
                have h4 : C ≤ C * z := Nat.le_mul_of_pos_right _ HS.out.2.2.2.2.2.2
                have h5 := HS.out.2.2.2.2.2.1
                omega
              rw [hps, hM]
              have HM := Lib.hid hM
              have qM : (M : Int) ≤ 1000 := by omega
              clear hps hM hM1
              obtain ⟨wi, rfl⟩ : ∃ wi, wi = wr := ⟨_, rfl⟩
              go_wp2
              go_loopw [10, 11] (fun x j W3 => ∃ (k : Nat) (hv : Bool), x = .bool hv ∧ j = .int .i64 (k : Int) ∧ k ≤ M ∧ Hid (hv = decide (pieceT T z a ∈ ps.take k)) ∧ Hid (z1.grownBy W3 none)) (fun _ j _ => M - (intOf j).toNat)
              case atStart => exact ⟨0, false, rfl, rfl, Nat.zero_le _, Lib.hid (by simp), Lib.hid (World.grownBy.refl _ _)⟩
              case round =>
                obtain ⟨k, hv, rfl, rfl, hk3, hhv, hg3⟩ := hrel
                have HHV := hhv
                have HG3 := hg3
                have HP4 := Lib.hid (HP3.out.grown HG3.out)
                by_cases hlt3 : k < M
                · have HLT3 := Lib.hid hlt3
                  have q3 : (k : Int) < (M : Int) := by omega
                  have HNX := Lib.hid (has_next (P := pieceT T z a) (by rw [HM.out]; exact hlt3))
                  clear hk3 hhv hg3 hlt3
                  cases hv with
                  | true =>
                    go_wp2
                    go_roundw
                    case rel => exact ⟨k + 1, true, rfl, by go_num, HLT3.out, Lib.hid (by rw [HNX.out, ← HHV.out]; rfl), HG3⟩
                    case measure => simp [intOf]; have := HLT3.out; omega
                  | false =>
                    obtain ⟨bp, cp', u, e1, hcu, hbu, hbl⟩ := HP4.out.at_ (k := k) (by rw [HM.out]; exact HLT3.out)
                    rw [HM.out] at e1
                    simp at e1
                    obtain ⟨rfl, rfl⟩ := e1
                    have HS3 := Lib.hid (same_any hbu (HCUT.out _ HP4.out.gr a z (c - a) HAZ.out) ⟨hbl, HPL.out _ _ HAZ.out⟩)
                    obtain ⟨x, hx⟩ : ∃ x, decide (ps.getD k [] = pieceT T z a) = x := ⟨_, rfl⟩
                    rw [hx] at HS3
                    have HX := Lib.hid hx
                    clear hbu hx hbl
                    go_wp2_with fail
                    refine (HS3.out).mono ?_
                    rintro e z2 ⟨rfl, hg4⟩
                    have HG4 := Lib.hid (grown_trans HG3.out hg4)
                    clear hg4 HS3
                    go_wp2
                    go_roundw
                    case rel => exact ⟨k + 1, x, rfl, by go_num, HLT3.out, Lib.hid (by rw [HNX.out, ← HHV.out, HX.out]; rfl), HG4⟩
                    case measure => simp [intOf]; have := HLT3.out; omega
                · obtain rfl : k = M := by omega
                  have q3 : ¬ (k : Int) < (k : Int) := by omega
                  have HHW := Lib.hid (show hv = decide (pieceT T z a ∈ ps) from by have := HHV.out; rw [List.take_of_length_le (by rw [HM.out]; exact Nat.le_refl _)] at this; exact this)
                  have HP5 := Lib.hid (show PAt w wr (.slice Ap k cp) ps from by have := HP4.out; rw [HM.out] at this; exact this)
                  have HNE := Lib.hid (show ¬ (pieceT T z a).take (z / 2) = (pieceT T z a).drop (z / 2) from by rw [HZH.out.1, HZH.out.2]; simpa using HD.out)
                  clear hk3 hhv hg3 hlt3
                  cases hv with
                  | true =>
                    go_wp2
                    go_roundw
                    case rel => exact ⟨i + 1, y, rfl, HLT2.out, Lib.hid (by rw [← HY.out, HA.out, Nat.add_mul, Nat.one_mul]), Lib.hid (by rw [lvl_succ, ← HA.out]; unfold addP; rw [if_neg HNE.out, HPS.out, if_pos (by simpa using HHW.out)]; exact HP5.out)⟩
                    case measure => simp [intOf]; have := HY.out; have := HAZ.out; have := HS.out.2.2.2.2.2.2; omega
                  | false =>
                    obtain ⟨us, hrow, hul, hus, hgr⟩ := HP5.out
                    obtain ⟨k0, hk0, hk1, hk2', hk3⟩ := info_parts info32p
                    have HROW := Lib.hid hrow
                    have HUL := Lib.hid hul
                    have HUS := Lib.hid hus
                    have HGR := Lib.hid hgr
                    have QL := Lib.hid (show us.length ≤ 1000000 from by rw [hul, HM.out]; omega)
                    have QB := fun o : Obj => Lib.hid (show w.heap.size ≤ (wr.alloc o).heap.size from by have := hgr.size; simp; omega)
                    have HQK := Lib.hid (show us.length = k from by rw [hul, HM.out])
                    clear hrow hul hus hgr
                    go_wp2_with (at_builtin; refine wpList_push _ rfl (.tmp 62) (.tmp 64) 29 rfl 32 k0 (.slice none 0 0) 24 Try.underlying29 hk0 hk1 hk2' hk3 rfl (by decide) w.heap.size (.slice Ap k cp) us.length us rfl (HROW.out.alloc _) wr.heap.size 1 (.slice (some ⟨b, off + a, none⟩) z (c - a)) rfl (cell_new _ _ _) rfl QL.out (QB _).out ?_; intro o2 w2 hown2 hgrow2 _; have HO2 := Lib.hid hown2; have HG2 := Lib.hid hgrow2; clear hown2 hgrow2)
                    go_roundw
                    case rel => exact ⟨i + 1, y, rfl, HLT2.out, Lib.hid (by rw [← HY.out, HA.out, Nat.add_mul, Nat.one_mul]), Lib.hid (by rw [lvl_succ, ← HA.out]; unfold addP; rw [if_neg HNE.out, HPS.out, if_neg (by simpa using HHW.out)]; exact PAt.more (HROW.out.alloc _) HUL.out HUS.out (grown_trans HGR.out (grown_alloc _ _)) HO2.out HG2.out (HCUT.out w (World.grownBy.refl _ _) a z (c - a) HAZ.out) rfl (HPL.out _ _ HAZ.out))⟩
                    case measure => simp [intOf]; have := HY.out; have := HAZ.out; have := HS.out.2.2.2.2.2.2; omega
        · obtain rfl : i = C := by omega
          have HE := Lib.hid (show a = N from by rw [HA.out]; exact HS.out.2.2.2.2.2.1)
          obtain rfl : a = N := HE.out
          have q2 : ¬ (a : Int) < (a : Int) := by omega
          clear hlt2 hk2 ha hp2
          go_wp2
          go_roundw
          case rel => exact ⟨v + 1, by go_num, HLT.out, Lib.hid (by rw [parts_succ, HS.out.1, HS.out.2.2.2.1, HS.out.2.2.2.2.1]; exact HP2.out)⟩
          case measure => simp [intOf]; have := HLT.out; omega
    · obtain rfl : v = n := by omega
      have q1 : ¬ (v : Int) < (v : Int) := by omega
      obtain ⟨Ap, cp, rfl⟩ := HP.out.form
      clear hk hp hlt
      go_wp2
      go_ret
      exact ⟨rfl, HP.out.gr⟩
end

end Go.Proofs.Ytailpphafoamfaa
