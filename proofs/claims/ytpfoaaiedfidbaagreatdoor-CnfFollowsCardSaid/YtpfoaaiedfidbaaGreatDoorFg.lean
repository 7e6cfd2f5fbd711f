/- What the counts of open literals say while the spreader goes on. -/
import Derived.Test.YtpfoaaiedfidbaaGreatDoorFc
import Derived.Test.YtpfoaaiedfidbaaGreatDoorFe
namespace Go.Proofs.YtpfoaaiedfidbaaGreatDoor
open Go Go.RowKit

/-- In which clauses a number stands. -/
def idxL (cs : List (List Int)) (y : Int) : List Int := ((List.range cs.length).filter fun i => hasB (cs.getD i []) y).map Int.ofNat
theorem idxL_snoc (cs : List (List Int)) (c : List Int) (y : Int) : idxL (cs ++ [c]) y = atK (idxL cs) cs.length c c.length y := by
  unfold atK
  rw [List.take_length]
  unfold idxL
  rw [List.length_append, show [c].length = 1 from rfl, List.range_succ, List.filter_append, List.map_append]
  have h1 : (List.range cs.length).filter (fun i => hasB ((cs ++ [c]).getD i []) y) = (List.range cs.length).filter (fun i => hasB (cs.getD i []) y) := by
    apply List.filter_congr
    intro i hi
    rw [List.mem_range] at hi
    simp [List.getD, List.getElem?_append_left hi]
  rw [h1]
  by_cases h : hasB c y = true
  · rw [if_pos h]
    simp [List.getD, h]
  · rw [if_neg h]
    simp [List.getD, h]
theorem mem_idxL {cs : List (List Int)} {y z : Int} : z ∈ idxL cs y ↔ ∃ i : Nat, i < cs.length ∧ z = i ∧ y ∈ cs.getD i [] := by
  unfold idxL
  rw [List.mem_map]
  constructor
  · rintro ⟨i, hi, rfl⟩
    rw [List.mem_filter, List.mem_range, hasB_iff] at hi
    exact ⟨i, hi.1, rfl, hi.2⟩
  · rintro ⟨i, h1, rfl, h2⟩
    exact ⟨i, by rw [List.mem_filter, List.mem_range, hasB_iff]; exact ⟨h1, h2⟩, rfl⟩
theorem nodup_idxL (cs : List (List Int)) (y : Int) : (idxL cs y).Nodup := by
  unfold idxL
  have h := (List.nodup_range (n := cs.length)).filter (fun i => hasB (cs.getD i []) y)
  unfold List.Nodup at *
  rw [List.pairwise_map]
  exact h.imp (fun {a b} hne e => hne (Int.ofNat.inj e))
theorem idxL_len (cs : List (List Int)) (y : Int) : (idxL cs y).length ≤ cs.length := by
  unfold idxL
  rw [List.length_map]
  have := List.length_filter_le (fun i => hasB (cs.getD i []) y) (List.range cs.length)
  simpa using this
/-- The counts are what of each clause isn't false in its list. -/
def OpsAt (cs : List (List Int)) (ops : List Int) (D : Nat → List Int) : Prop := ops.length = cs.length ∧ ∀ i, i < cs.length → ops.getD i 0 = (cnt (cs.getD i []) (D i) : Int)
/-- Who has one left at most has one that is true. -/
def Sat1 (cs : List (List Int)) (ops tr : List Int) (P : Nat → Prop) : Prop := ∀ i, i < cs.length → P i → ops.getD i 0 ≤ 1 → ∃ m ∈ cs.getD i [], m ∈ tr
/-- What stays so while it goes on. -/
structure SInv (l cs : List (List Int)) (is U tr : List Int) : Prop where
  hcs : CsOf l cs
  htr : TrOf l is tr
  his : ∀ n ∈ is, n ∈ tr
  sub : ∀ n ∈ tr, n ∈ U
  all : ∀ c ∈ cs, ∀ n ∈ c, n ∈ U
  small : U.length ≤ 50000
  may : ∀ n ∈ U, mayB n = true
theorem SInv.len {l cs : List (List Int)} {is U tr : List Int} (h : SInv l cs is U tr) : tr.length ≤ 50000 := Nat.le_trans (nodup_len h.htr.nd h.sub) h.small
/-- A look keeps it, and more is true; the clause has one that is true, or two open. -/
theorem SInv.look {l cs : List (List Int)} {is U tr tr' c D : List Int} {op : Int} (h : SInv l cs is U tr) (hc : c ∈ cs) (hop : op = (cnt c D : Int)) (hD : ∀ m ∈ D, m ∈ tr) (hl : Looked c op tr tr') :
    SInv l cs is U tr' ∧ (op ≤ 1 → ∃ m ∈ c, m ∈ tr') ∧ (∃ r, tr' = tr ++ r) := by
  rcases hl with ⟨rfl, h1⟩ | ⟨h1, h2, n, hn, h3, rfl⟩
  · refine ⟨h, fun h2 => ?_, [], by simp⟩
    rcases h1 with h1 | h1
    · omega
    · exact h1
  · have ht := look_tell h.hcs h.htr hc hD (by omega) h2 hn h3
    refine ⟨⟨h.hcs, ht, fun n hn => by simp [h.his n hn], fun m hm => ?_, h.all, h.small, h.may⟩, fun _ => ⟨n, hn, by simp⟩, [n], rfl⟩
    rw [List.mem_append, List.mem_singleton] at hm
    rcases hm with hm | rfl
    · exact h.sub m hm
    · exact h.all c hc m hn
theorem SInv.no {l cs : List (List Int)} {is U tr c : List Int} {op : Int} (h : SInv l cs is U tr) (hc : c ∈ cs) (hl : LookNo c op tr) : SpreadNo l is := look_no h.hcs h.htr hc hl.2.2
theorem Sat1.mono {cs : List (List Int)} {ops tr tr' : List Int} {P : Nat → Prop} (h : Sat1 cs ops tr P) (hs : ∃ r, tr' = tr ++ r) : Sat1 cs ops tr' P := by
  obtain ⟨r, rfl⟩ := hs
  intro i hi hp ho
  obtain ⟨m, h1, h2⟩ := h i hi hp ho
  exact ⟨m, h1, by simp [h2]⟩
/-- Of the clauses gone past so far the one more literal is counted. -/
def Dk (zs : List Int) (j nx : Nat) (tr : List Int) (i : Nat) : List Int := if hasB (zs.take j) (i : Int) = true then tr.take (nx + 1) else tr.take nx
theorem set_getD {ops : List Int} {i k : Nat} {x : Int} (hi : i < ops.length) : (ops.set i x).getD k 0 = if k = i then x else ops.getD k 0 := by
  by_cases e : k = i
  · subst e; simp [List.getD, hi]
  · rw [if_neg e]
    simp [List.getD, List.getElem?_set_ne (Ne.symm e)]
theorem step_ops {l cs : List (List Int)} {is U tr ops zs : List Int} {t : Int} {j nx i : Nat} (h : SInv l cs is U tr) (hz : zs = idxL cs (-t)) (hnx : nx < tr.length) (ht : tr.getD nx 0 = t) (ho : OpsAt cs ops (Dk zs j nx tr)) (hj : j < zs.length) (hi : zs.getD j 0 = (i : Int)) :
    i < cs.length ∧ ops.getD i 0 - 1 = (cnt (cs.getD i []) (tr.take (nx + 1)) : Int) ∧ OpsAt cs (ops.set i (ops.getD i 0 - 1)) (Dk zs (j + 1) nx tr) := by
  have hzm : zs.getD j 0 ∈ zs := getD_mem hj
  rw [hi, hz] at hzm
  obtain ⟨i', h1, h2, h3⟩ := mem_idxL.1 hzm
  have : i = i' := by omega
  subst this
  have hnd : zs.Nodup := by rw [hz]; exact nodup_idxL _ _
  have hnot : hasB (zs.take j) (i : Int) = false := by
    rw [hasB_no]
    intro hm
    obtain ⟨q, hq, e⟩ := List.getElem_of_mem hm
    rw [List.getElem_take] at e
    have hqj : q < j := by simp at hq; omega
    have e2 : zs[j] = (i : Int) := by rw [← hi]; simp [List.getD, List.getElem?_eq_getElem hj]
    have := (List.getElem_inj hnd).1 (e.trans e2.symm)
    omega
  have hcnd : (cs.getD i []).Nodup := nodup_of_rising (h.hcs.up _ (getD_memL h1)).1
  have htr : tr.take (nx + 1) = tr.take nx ++ [t] := by
    rw [List.take_succ_eq_append_getElem hnx]
    congr 2
    rw [← ht]
    simp [List.getD, List.getElem?_eq_getElem hnx]
  have htn : t ∉ tr.take nx := by
    intro hm
    obtain ⟨q, hq, e⟩ := List.getElem_of_mem hm
    rw [List.getElem_take] at e
    have hqj : q < nx := by simp at hq; omega
    have e2 : tr[nx] = t := by rw [← ht]; simp [List.getD, List.getElem?_eq_getElem hnx]
    have := (List.getElem_inj h.htr.nd).1 (e.trans e2.symm)
    omega
  have hstep := cnt_step_yes hcnd htn h3
  have hoi := ho.2 i h1
  have hD : Dk zs j nx tr i = tr.take nx := by unfold Dk; rw [hnot]; rfl
  rw [hD] at hoi
  have hval : ops.getD i 0 - 1 = (cnt (cs.getD i []) (tr.take (nx + 1)) : Int) := by
    rw [htr, hoi]
    omega
  refine ⟨h1, hval, by simp [ho.1], fun k hk => ?_⟩
  rw [set_getD (by rw [ho.1]; exact h1)]
  have hs := take_has_snoc zs j (k : Int) (i : Int) hj hi
  by_cases e : k = i
  · subst e
    rw [if_pos rfl, hval]
    unfold Dk
    rw [hs]
    simp
  · rw [if_neg e, ho.2 k hk]
    unfold Dk
    rw [hs]
    have : ((i : Int) == (k : Int)) = false := by simp; omega
    rw [this, Bool.or_false]
theorem end_ops {cs : List (List Int)} {tr ops zs : List Int} {t : Int} {nx : Nat} (hz : zs = idxL cs (-t)) (hnx : nx < tr.length) (ht : tr.getD nx 0 = t) (ho : OpsAt cs ops (Dk zs zs.length nx tr)) : OpsAt cs ops (fun _ => tr.take (nx + 1)) := by
  refine ⟨ho.1, fun i hi => ?_⟩
  rw [ho.2 i hi]
  unfold Dk
  rw [List.take_length]
  by_cases h : hasB zs (i : Int) = true
  · rw [if_pos h]
  · rw [if_neg h]
    have htr : tr.take (nx + 1) = tr.take nx ++ [t] := by
      rw [List.take_succ_eq_append_getElem hnx]
      congr 2
      rw [← ht]
      simp [List.getD, List.getElem?_eq_getElem hnx]
    rw [htr, cnt_step_no]
    intro hm
    exact h (hasB_iff.2 (by rw [hz]; exact mem_idxL.2 ⟨i, hi, rfl, hm⟩))
theorem zero_ops {cs : List (List Int)} {tr ops zs : List Int} {nx : Nat} (ho : OpsAt cs ops (fun _ => tr.take nx)) : OpsAt cs ops (Dk zs 0 nx tr) := by
  refine ⟨ho.1, fun i hi => ?_⟩
  rw [ho.2 i hi]
  simp [Dk, hasB]
theorem more_ops {cs : List (List Int)} {tr ops zs r : List Int} {j nx : Nat} (hnx : nx < tr.length) (ho : OpsAt cs ops (Dk zs j nx tr)) : OpsAt cs ops (Dk zs j nx (tr ++ r)) := by
  refine ⟨ho.1, fun i hi => ?_⟩
  rw [ho.2 i hi]
  unfold Dk
  rw [List.take_append_of_le_length (by omega), List.take_append_of_le_length (by omega)]
end Go.Proofs.YtpfoaaiedfidbaaGreatDoor
