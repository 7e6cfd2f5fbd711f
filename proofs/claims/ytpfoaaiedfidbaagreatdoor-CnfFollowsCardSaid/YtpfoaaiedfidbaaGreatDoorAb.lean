/- Counting what of a clause is not yet gone past as false; what a look at a clause tells. -/
import Derived.Test.YtpfoaaiedfidbaaGreatDoorAa
namespace Go.Proofs.YtpfoaaiedfidbaaGreatDoor

def cnt (c D : List Int) : Nat := (c.filter fun m => !(D.contains (-m))).length
theorem mem_cnt {c D : List Int} {m : Int} : m ∈ c.filter (fun m => !(D.contains (-m))) ↔ m ∈ c ∧ -m ∉ D := by
  rw [List.mem_filter]
  simp
theorem nodup_of_rising {c : List Int} (h : Rising c) : c.Nodup := by
  unfold List.Nodup
  exact List.Pairwise.imp (fun {a b} h => by omega) h
theorem nodup_two {L : List Int} (h : L.Nodup) (hl : 2 ≤ L.length) : ∃ a ∈ L, ∃ b ∈ L, a ≠ b := by
  match L, hl with
  | a :: b :: r, _ => exact ⟨a, by simp, b, by simp, fun e => by subst e; simp at h⟩
theorem cnt_le_one {c D : List Int} (_hn : c.Nodup) (h : cnt c D ≤ 1) {n m : Int} (h1 : n ∈ c) (h2 : -n ∉ D) (h3 : m ∈ c) (hne : m ≠ n) : -m ∈ D := by
  by_cases hm : -m ∈ D
  · exact hm
  · exfalso
    have a := (mem_cnt (D := D)).2 ⟨h1, h2⟩
    have b := (mem_cnt (D := D)).2 ⟨h3, hm⟩
    unfold cnt at h
    match hf : c.filter (fun m => !(D.contains (-m))), h, a, b with
    | [], _, a, _ => simp at a
    | [x], _, a, b =>
      simp only [List.mem_singleton] at a b
      exact hne (b.trans a.symm)
    | x :: y :: r, h, _, _ => simp at h
theorem two_of_cnt {c D : List Int} (hn : c.Nodup) (h : 2 ≤ cnt c D) : ∃ m1 ∈ c, ∃ m2 ∈ c, m1 ≠ m2 ∧ -m1 ∉ D ∧ -m2 ∉ D := by
  obtain ⟨a, ha, b, hb, hne⟩ := nodup_two (hn.filter _) h
  rw [mem_cnt] at ha hb
  exact ⟨a, ha.1, b, hb.1, hne, ha.2, hb.2⟩
theorem cnt_nil (c : List Int) : cnt c [] = c.length := by
  unfold cnt
  rw [List.filter_eq_self.2 (by simp)]
theorem cnt_step_no {c D : List Int} {t : Int} (ht : -t ∉ c) : cnt c (D ++ [t]) = cnt c D := by
  unfold cnt
  congr 1
  apply List.filter_congr
  intro m hm
  have : -m ≠ t := fun e => ht (by rw [← e]; simpa using hm)
  simp [this]
theorem cnt_step_yes : ∀ {c D : List Int} {t : Int}, c.Nodup → t ∉ D → -t ∈ c → cnt c (D ++ [t]) + 1 = cnt c D
  | [], _, _, _, _, h => by simp at h
  | x :: c, D, t, hn, hD, h => by
    have hn' := List.nodup_cons.1 hn
    by_cases e : x = -t
    · subst e
      have h1 := cnt_step_no (D := D) hn'.1
      unfold cnt at h1 ⊢
      rw [List.filter_cons_of_neg (by simp), List.filter_cons_of_pos (by simpa using hD), h1]
      simp
    · have h2 : -t ∈ c := by
        rw [List.mem_cons] at h
        rcases h with h | h
        · exact absurd h.symm e
        · exact h
      have ih := cnt_step_yes (D := D) hn'.2 hD h2
      have e' : -x ≠ t := fun h => e (by omega)
      unfold cnt at ih ⊢
      by_cases hx : -x ∈ D
      · rw [List.filter_cons_of_neg (by simp [hx]), List.filter_cons_of_neg (by simpa using hx)]
        exact ih
      · rw [List.filter_cons_of_pos (by simp [hx, e']), List.filter_cons_of_pos (by simpa using hx)]
        simp only [List.length_cons]
        omega
theorem nodup_len : ∀ {T U : List Int}, T.Nodup → (∀ n ∈ T, n ∈ U) → T.length ≤ U.length
  | [], _, _, _ => by simp
  | x :: T, U, hn, h => by
    have hn' := List.nodup_cons.1 hn
    have hx : x ∈ U := h x (by simp)
    have := nodup_len (T := T) (U := U.erase x) hn'.2 (fun n hn2 => by
      have e : n ≠ x := fun e => hn'.1 (e ▸ hn2)
      exact (List.mem_erase_of_ne e).2 (h n (by simp [hn2])))
    rw [List.length_erase_of_mem hx] at this
    have : 0 < U.length := List.length_pos_of_mem hx
    simp only [List.length_cons]
    omega

/-- The clauses that are kept: cleaned ones of those that were handed over. -/
structure CsOf (l cs : List (List Int)) : Prop where
  up : ∀ c ∈ cs, Rising c ∧ Cons c ∧ ∃ c0 ∈ l, ∀ n, n ∈ c ↔ n ∈ c0
  all : ∀ c0 ∈ l, (∃ n ∈ c0, n ≠ -n ∧ -n ∈ c0) ∨ ∃ c ∈ cs, ∀ n, n ∈ c ↔ n ∈ c0
/-- What has come to be true. -/
structure TrOf (l : List (List Int)) (is tr : List Int) : Prop where
  nd : tr.Nodup
  cons : Cons tr
  der : ∀ n ∈ tr, Der l is n
theorem look_no {l cs : List (List Int)} {is tr c : List Int} (hc : CsOf l cs) (ht : TrOf l is tr) (h1 : c ∈ cs) (h : ∀ m ∈ c, -m ∈ tr) : SpreadNo l is := by
  obtain ⟨_, _, c0, h0, he⟩ := hc.up c h1
  exact .inr ⟨c0, h0, fun m hm => ht.der _ (h m ((he m).2 hm))⟩
theorem look_tell {l cs : List (List Int)} {is tr c D : List Int} {n : Int} (hc : CsOf l cs) (ht : TrOf l is tr) (h1 : c ∈ cs) (hD : ∀ m ∈ D, m ∈ tr) (hl : cnt c D ≤ 1) (hno : ∀ m ∈ c, m ∉ tr) (hn : n ∈ c) (hf : -n ∉ tr) :
    TrOf l is (tr ++ [n]) := by
  obtain ⟨hr, hk, c0, h0, he⟩ := hc.up c h1
  have h00 : n ≠ -n := fun e => hk n hn (e ▸ hn)
  refine ⟨?_, ?_, ?_⟩
  · rw [List.nodup_append]
    refine ⟨ht.nd, by simp, fun a ha b hb => ?_⟩
    simp at hb
    subst hb
    exact fun e => hno _ hn (e ▸ ha)
  · intro x hx hx2
    rw [List.mem_append, List.mem_singleton] at hx hx2
    rcases hx with hx | rfl
    · rcases hx2 with h | h
      · exact ht.cons x hx h
      · have : x = -n := by omega
        exact hf (this ▸ hx)
    · rcases hx2 with h | h
      · exact hf h
      · exact h00 h.symm
  · intro x hx
    rw [List.mem_append, List.mem_singleton] at hx
    rcases hx with hx | rfl
    · exact ht.der x hx
    · refine .unit h0 ((he _).1 hn) fun m hm hne => ?_
      exact ht.der _ (hD _ (cnt_le_one (nodup_of_rising hr) hl hn (fun h => hf (hD _ h)) ((he m).2 hm) hne))
theorem end_ok {l cs : List (List Int)} {is tr a : List Int} (hc : CsOf l cs) (ht : TrOf l is tr) (his : ∀ n ∈ is, n ∈ tr) (hall : ∀ c ∈ cs, cnt c tr ≤ 1 → ∃ m ∈ c, m ∈ tr) (hup : Rising a) (hm : ∀ n, n ∈ a ↔ n ∈ tr) : SpreadOk l is a := by
  refine ⟨hup, fun n h => (hm n).2 (his n h), fun n h => ht.der n ((hm n).1 h), ?_, fun n h h2 => ht.cons n ((hm n).1 h) ((hm _).1 h2)⟩
  intro c0 h0
  rcases hc.all c0 h0 with ⟨n, hn, hne, hn2⟩ | ⟨c, h1, he⟩
  · by_cases g1 : n ∈ tr
    · exact .inl ⟨n, hn, (hm n).2 g1⟩
    · by_cases g2 : -n ∈ tr
      · exact .inl ⟨-n, hn2, (hm _).2 g2⟩
      · exact .inr ⟨n, hn, -n, hn2, hne, fun h => g2 ((hm _).1 h), fun h => g1 ((hm _).1 (by simpa using h))⟩
  · obtain ⟨hr, _, _⟩ := hc.up c h1
    by_cases hl : cnt c tr ≤ 1
    · obtain ⟨m, hm1, hm2⟩ := hall c h1 hl
      exact .inl ⟨m, (he m).1 hm1, (hm m).2 hm2⟩
    · obtain ⟨m1, g1, m2, g2, hne, g3, g4⟩ := two_of_cnt (nodup_of_rising hr) (by omega : 2 ≤ cnt c tr)
      exact .inr ⟨m1, (he _).1 g1, m2, (he _).1 g2, hne, fun h => g3 ((hm _).1 h), fun h => g4 ((hm _).1 h)⟩
end Go.Proofs.YtpfoaaiedfidbaaGreatDoor
