/- What each parameter's value is, opened: numbers, slices of numbers, slices of such slices. -/
import Derived.Test.YtpfoaaiedfidbaaGreatDoorK
import Derived.Test.YtpfoaaiedfidbaaGreatDoorBc
import Derived.Deep.Matrix
import Derived.SizedLaws
namespace Go.Proofs.YtpfoaaiedfidbaaGreatDoor
open Go.ChangeShapes Go.WideShapes Go.ChangeAt Go.RowKit Go.Deep

theorem cell_lt {w : World} {p : Addr} {v : Value} (h : w.cell? p = some v) : p.block < w.heap.size := by
  by_cases hh : p.block < w.heap.size
  · exact hh
  · exfalso
    have : w.heap[p.block]? = none := by simp; omega
    simp [World.cell?, this] at h
theorem spot_none {w : World} {b o : Nat} {sp : Option Nat} {k : IntKind} {n : Int} (h : w.cell? ((⟨b, o, sp⟩ : Addr).add 0) = some (.int k n)) : sp = none := by
  cases sp with
  | none => rfl
  | some k =>
    simp [Addr.add, World.cell?] at h
    split at h <;> simp at h
theorem spot_none' {w : World} {b o : Nat} {sp : Option Nat} {A : Option Addr} {m c : Nat} (h : w.cell? ((⟨b, o, sp⟩ : Addr).add 0) = some (.slice A m c)) : sp = none := by
  cases sp with
  | none => rfl
  | some k =>
    simp [Addr.add, World.cell?] at h
    split at h <;> simp at h
theorem add_none (b o i : Nat) : ((⟨b, o, none⟩ : Addr).add i) = ⟨b, o + i, none⟩ := by
  unfold Addr.add
  by_cases h1 : i = 0 <;> simp [h1]
theorem c3 : Tryz.prog.cellsOf 3 = 1 := by kernel_rfl
theorem c23 : Tryz.prog.cellsOf 23 = 1 := by kernel_rfl
theorem b3 : Tryz.prog.bytesOf 3 = 8 := by kernel_rfl
theorem b23 : Tryz.prog.bytesOf 23 = 24 := by kernel_rfl
section
variable {H : Type} {enc : TypeId × Value → H} {W : World} {b : Nat} {v : Value} {d : DataW H} {p : List MemPlace}
set_option maxRecDepth 100000 in
theorem as_int (hv : Value.okWide Tryz.prog W .any b 3 v) (h : DataW.Trod enc Tryz.prog W 0 (fun _ => true) true 3 v d p) : ∃ a : Int, v = .int .i64 a := by
  obtain ⟨a, rfl, _, _, _⟩ := open_int Tryz.underlying3 hv h
  exact ⟨a, rfl⟩
/-- A row of numbers, from its cells. -/
theorem nums_of {a : Addr} {len cap : Nat} {zs : List Int} (hl : len ≤ cap) (hz : zs.length = cap) (hc : ∀ i, i < cap → W.cell? (a.add i) = some (.int .i64 (zs.getD i 0))) : Nums W W.heap.size (.slice (some a) len cap) (zs.take len) := by
  have hlen : (zs.take len).length = len := by simp; omega
  refine ⟨some a, cap, by rw [hlen], by omega, fun h0 => ?_⟩
  obtain ⟨b, o, sp⟩ := a
  obtain rfl := spot_none (hc 0 (by omega))
  refine ⟨b, o, rfl, ?_, fun j hj => ?_⟩
  · have := cell_lt (hc 0 (by omega))
    rw [add_none] at this
    exact this
  · rw [hlen] at hj
    have := hc j (by omega)
    rw [add_none] at this
    rw [this]
    simp [List.getD, hj]
set_option maxRecDepth 100000 in
theorem as_nums {ts : List TypeId} {ds : List (DataW H)} {j : Nat} (hz : (DataW.weightsEach Tryz.prog ts ds).all (· ≤ reachBytes) = true) (ht : ts[j]? = some 23) (hj : ds[j]? = some d)
    (hv : Value.okWide Tryz.prog W .any b 23 v) (h : DataW.Trod enc Tryz.prog W 0 (fun _ => true) true 23 v d p) : ∃ xs : List Int, Nums W W.heap.size v xs ∧ xs.length ≤ 9223372036854775806 := by
  obtain ⟨a0, len0, cap0, rfl⟩ := okWide_slice Tryz.underlying23 hv
  obtain ⟨fuel, hf⟩ := h
  rcases open_ints Tryz.underlying23 Tryz.underlying3 c3 hf with ⟨hcs, hx⟩ | ⟨a, len, cap, zs, hcs, _, hl, _, hzl, hx, hcell, _⟩
  · simp [Value.cells] at hcs
    obtain ⟨rfl, rfl, rfl⟩ := hcs
    exact ⟨[], Nums.nil _ _ _, by simp⟩
  · simp only [Prod.mk.injEq] at hx
    simp [Value.cells] at hcs
    obtain ⟨rfl, rfl, rfl⟩ := hcs
    simp only [if_true] at hzl
    have hs := sized_slice hz ht (hx.1 ▸ hj) Tryz.underlying23
    rw [b3] at hs
    have hr := reachBytes_lt
    have hlits : ∀ l : List Int, (lits (H := H) .i64 l).length = l.length := fun l => by simp [lits]
    rw [hlits, hlits] at hs
    refine ⟨zs.take len0, nums_of hl hzl (fun i hi => hcell i (by omega)), ?_⟩
    omega
theorem weightsAll_mem {e : TypeId} {x : DataW H} : ∀ {l : List (DataW H)}, x ∈ l → ∀ n ∈ x.weights Tryz.prog e, n ∈ DataW.weightsAll Tryz.prog e l
  | y :: r, hx, n, hn => by
    simp only [DataW.weightsAll, List.mem_append]
    rcases List.mem_cons.1 hx with rfl | hx
    · exact .inl hn
    · exact .inr (weightsAll_mem hx n hn)
set_option maxRecDepth 100000 in
theorem as_grid {ts : List TypeId} {ds : List (DataW H)} {j : Nat} (hz : (DataW.weightsEach Tryz.prog ts ds).all (· ≤ reachBytes) = true) (ht : ts[j]? = some 22) (hj : ds[j]? = some d)
    (hv : Value.okWide Tryz.prog W .any b 22 v) (h : DataW.Trod enc Tryz.prog W 0 (fun _ => true) true 22 v d p) : ∃ l : List (List Int), Grid W W.heap.size v l ∧ Fits l := by
  obtain ⟨a0, len0, cap0, rfl⟩ := okWide_slice Tryz.underlying22 hv
  obtain ⟨fuel, hf⟩ := h
  rcases open_int_rows Tryz.underlying22 Tryz.underlying23 Tryz.underlying3 c23 c3 hf with ⟨hcs, hx⟩ | ⟨a, len, cap, A, L, C, Z, hcs, _, hl, _, hx, hrow⟩
  · simp [Value.cells] at hcs
    obtain ⟨rfl, rfl, rfl⟩ := hcs
    exact ⟨[], ⟨none, 0, rfl, by simp, fun h => absurd h (by simp)⟩, by simp, by simp⟩
  · simp only [Prod.mk.injEq] at hx
    simp [Value.cells] at hcs
    obtain ⟨rfl, rfl, rfl⟩ := hcs
    have hr := reachBytes_lt
    have hs := sized_slice hz ht (hx.1 ▸ hj) Tryz.underlying22
    rw [b23] at hs
    simp only [List.length_map, List.length_range] at hs
    have hlt : ∀ r, r < len0 → L r ≤ 9223372036854775806 := by
      intro r hr0
      obtain ⟨_, hLC, _, hZ, _, hAn, _⟩ := hrow r (by omega)
      cases hA : A r with
      | none => have := hAn hA; omega
      | some a' =>
        have hm : (intRow .i64 (A r) (L r) (Z r) : DataW H) ∈ (List.range len0).map fun r => intRow .i64 (A r) (L r) (Z r) := List.mem_map.2 ⟨r, List.mem_range.2 hr0, rfl⟩
        have hw : (Z r).length * 8 ∈ (intRow .i64 (A r) (L r) (Z r) : DataW H).weights Tryz.prog 23 := by
          rw [hA]
          simp only [intRow, DataW.weights, Tryz.underlying23, b3, lits, List.length_map, List.length_take, List.length_drop]
          refine List.mem_cons.2 (.inl ?_)
          omega
        have h1 := weightsAll_mem hm _ hw
        have h2 : (Z r).length * 8 ∈ (d.weights Tryz.prog 22) := by
          rw [hx.1]
          simp only [DataW.weights, Tryz.underlying22]
          exact List.mem_cons.2 (.inr (List.mem_append.2 (.inl h1)))
        have h3 := List.all_eq_true.1 hz _ (DataW.weights_mem_each ht hj _ h2)
        have h4 : (Z r).length * 8 ≤ reachBytes := by simpa using h3
        omega
    have hrl : ∀ r, r < len0 → ((Z r).take (L r)).length = L r := by
      intro r hr0
      obtain ⟨_, hLC, _, hZ, _⟩ := hrow r (by omega)
      rw [List.length_take]
      omega
    refine ⟨(List.range len0).map fun r => (Z r).take (L r), ⟨some a, cap0, by simp, by simpa using hl, fun h0 => ?_⟩, by simp; omega, ?_⟩
    · obtain ⟨bb, o, sp⟩ := a
      have h00 : 0 < len0 := by simpa using h0
      obtain rfl := spot_none' (hrow 0 (by omega)).1
      refine ⟨bb, o, rfl, ?_, fun r hr1 => ?_⟩
      · have := cell_lt (hrow 0 (by omega)).1
        rw [add_none] at this
        exact this
      · have hr0 : r < len0 := by simpa using hr1
        obtain ⟨hc, hLC, _, hZ, _, hAn, hA⟩ := hrow r (by omega)
        rw [add_none] at hc
        refine ⟨_, hc, ?_⟩
        rw [show ((List.range len0).map fun r => (Z r).take (L r)).getD r [] = (Z r).take (L r) by simp [List.getD, hr0]]
        cases hAr : A r with
        | none =>
          have h1 := hAn hAr
          rw [h1, show L r = 0 by omega]
          exact Nums.nil _ _ _
        | some a' => exact nums_of hLC hZ (hA a' hAr).2
    · intro c hc
      rw [List.mem_map] at hc
      obtain ⟨r, hr0, rfl⟩ := hc
      have hr1 := List.mem_range.1 hr0
      rw [hrl r hr1]
      exact hlt r hr1
end
end Go.Proofs.YtpfoaaiedfidbaaGreatDoor
