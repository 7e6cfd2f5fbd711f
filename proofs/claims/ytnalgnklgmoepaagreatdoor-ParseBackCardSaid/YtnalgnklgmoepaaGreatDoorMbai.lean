/- The contract of level. The contract of binary. The contract of choice. -/
import Derived.Test.YtnalgnklgmoepaaGreatDoorMbah
set_option linter.all false
namespace Go.Proofs.YtnalgnklgmoepaaGreatDoor
open Go Go.RowKit

/-- The table of operators as level lays it. -/
structure LevAt (G T : Nat) (w : World) : Prop where
  row : ∀ k, k < 10 → w.cell? ⟨T, k, none⟩ = some (.slice (some ⟨G + k, 0, none⟩) (levelsL.getD k []).length (levelsL.getD k []).length)
  str : ∀ k, k < 10 → ∀ j, j < ((levelsL.getD k []).map fun x => (⟨x.toArray⟩ : ByteArray)).length → w.cell? ⟨G + k, 0 + j, none⟩ = some (.string (((levelsL.getD k []).map fun x => (⟨x.toArray⟩ : ByteArray)).getD j ByteArray.empty))
def levW (w : World) : World := ((((((((((w.alloc (.cells #[.string ⟨#[124, 124]⟩] 9)).alloc (.cells #[.string ⟨#[38, 38]⟩] 9)).alloc (.cells #[.string ⟨#[124]⟩] 9)).alloc (.cells #[.string ⟨#[94]⟩] 9)).alloc (.cells #[.string ⟨#[38]⟩] 9)).alloc (.cells #[.string ⟨#[61, 61]⟩, .string ⟨#[33, 61]⟩] 9)).alloc (.cells #[.string ⟨#[60]⟩, .string ⟨#[60, 61]⟩, .string ⟨#[62]⟩, .string ⟨#[62, 61]⟩] 9)).alloc (.cells #[.string ⟨#[60, 60]⟩, .string ⟨#[62, 62]⟩] 9)).alloc (.cells #[.string ⟨#[43]⟩, .string ⟨#[45]⟩] 9)).alloc (.cells #[.string ⟨#[42]⟩, .string ⟨#[47]⟩, .string ⟨#[37]⟩] 9)).alloc (.cells #[.slice (some ⟨w.heap.size, 0, none⟩) 1 1, .slice (some ⟨w.heap.size + 1, 0, none⟩) 1 1, .slice (some ⟨w.heap.size + 1 + 1, 0, none⟩) 1 1, .slice (some ⟨w.heap.size + 1 + 1 + 1, 0, none⟩) 1 1, .slice (some ⟨w.heap.size + 1 + 1 + 1 + 1, 0, none⟩) 1 1, .slice (some ⟨w.heap.size + 1 + 1 + 1 + 1 + 1, 0, none⟩) 2 2, .slice (some ⟨w.heap.size + 1 + 1 + 1 + 1 + 1 + 1, 0, none⟩) 4 4, .slice (some ⟨w.heap.size + 1 + 1 + 1 + 1 + 1 + 1 + 1, 0, none⟩) 2 2, .slice (some ⟨w.heap.size + 1 + 1 + 1 + 1 + 1 + 1 + 1 + 1, 0, none⟩) 2 2, .slice (some ⟨w.heap.size + 1 + 1 + 1 + 1 + 1 + 1 + 1 + 1 + 1, 0, none⟩) 3 3] 46)
set_option maxRecDepth 100000 in
theorem lev_row (w : World) (k : Nat) (hk : k < 10) : (levW w).cell? ⟨w.heap.size + 1 + 1 + 1 + 1 + 1 + 1 + 1 + 1 + 1 + 1, k, none⟩ = some (.slice (some ⟨w.heap.size + k, 0, none⟩) (levelsL.getD k []).length (levelsL.getD k []).length) := by
  match k, hk with
  | 0, _ => exact (show (levW w).cell? ⟨w.heap.size + 1 + 1 + 1 + 1 + 1 + 1 + 1 + 1 + 1 + 1, 0, none⟩ = some (.slice (some ⟨w.heap.size + 0, 0, none⟩) 1 1) by simp [levW, go_sem])
  | 1, _ => exact (show (levW w).cell? ⟨w.heap.size + 1 + 1 + 1 + 1 + 1 + 1 + 1 + 1 + 1 + 1, 1, none⟩ = some (.slice (some ⟨w.heap.size + 1, 0, none⟩) 1 1) by simp [levW, go_sem])
  | 2, _ => exact (show (levW w).cell? ⟨w.heap.size + 1 + 1 + 1 + 1 + 1 + 1 + 1 + 1 + 1 + 1, 2, none⟩ = some (.slice (some ⟨w.heap.size + 2, 0, none⟩) 1 1) by simp [levW, go_sem])
  | 3, _ => exact (show (levW w).cell? ⟨w.heap.size + 1 + 1 + 1 + 1 + 1 + 1 + 1 + 1 + 1 + 1, 3, none⟩ = some (.slice (some ⟨w.heap.size + 3, 0, none⟩) 1 1) by simp [levW, go_sem])
  | 4, _ => exact (show (levW w).cell? ⟨w.heap.size + 1 + 1 + 1 + 1 + 1 + 1 + 1 + 1 + 1 + 1, 4, none⟩ = some (.slice (some ⟨w.heap.size + 4, 0, none⟩) 1 1) by simp [levW, go_sem])
  | 5, _ => exact (show (levW w).cell? ⟨w.heap.size + 1 + 1 + 1 + 1 + 1 + 1 + 1 + 1 + 1 + 1, 5, none⟩ = some (.slice (some ⟨w.heap.size + 5, 0, none⟩) 2 2) by simp [levW, go_sem])
  | 6, _ => exact (show (levW w).cell? ⟨w.heap.size + 1 + 1 + 1 + 1 + 1 + 1 + 1 + 1 + 1 + 1, 6, none⟩ = some (.slice (some ⟨w.heap.size + 6, 0, none⟩) 4 4) by simp [levW, go_sem])
  | 7, _ => exact (show (levW w).cell? ⟨w.heap.size + 1 + 1 + 1 + 1 + 1 + 1 + 1 + 1 + 1 + 1, 7, none⟩ = some (.slice (some ⟨w.heap.size + 7, 0, none⟩) 2 2) by simp [levW, go_sem])
  | 8, _ => exact (show (levW w).cell? ⟨w.heap.size + 1 + 1 + 1 + 1 + 1 + 1 + 1 + 1 + 1 + 1, 8, none⟩ = some (.slice (some ⟨w.heap.size + 8, 0, none⟩) 2 2) by simp [levW, go_sem])
  | 9, _ => exact (show (levW w).cell? ⟨w.heap.size + 1 + 1 + 1 + 1 + 1 + 1 + 1 + 1 + 1 + 1, 9, none⟩ = some (.slice (some ⟨w.heap.size + 9, 0, none⟩) 3 3) by simp [levW, go_sem])
set_option maxRecDepth 100000 in
theorem lev_str (w : World) (k : Nat) (hk : k < 10) (j : Nat) (hj : j < ((levelsL.getD k []).map fun x => (⟨x.toArray⟩ : ByteArray)).length) : (levW w).cell? ⟨w.heap.size + k, 0 + j, none⟩ = some (.string (((levelsL.getD k []).map fun x => (⟨x.toArray⟩ : ByteArray)).getD j ByteArray.empty)) := by
  rw [Nat.zero_add]
  match k, hk with
  | 0, _ =>
    match j, hj with
    | 0, _ => exact (show (levW w).cell? ⟨w.heap.size + 0, 0, none⟩ = some (.string ⟨#[124, 124]⟩) by simp [levW, go_sem])
    | j + 1, hj => exact absurd hj (by simp [levelsL])
  | 1, _ =>
    match j, hj with
    | 0, _ => exact (show (levW w).cell? ⟨w.heap.size + 1, 0, none⟩ = some (.string ⟨#[38, 38]⟩) by simp [levW, go_sem])
    | j + 1, hj => exact absurd hj (by simp [levelsL])
  | 2, _ =>
    match j, hj with
    | 0, _ => exact (show (levW w).cell? ⟨w.heap.size + 2, 0, none⟩ = some (.string ⟨#[124]⟩) by simp [levW, go_sem])
    | j + 1, hj => exact absurd hj (by simp [levelsL])
  | 3, _ =>
    match j, hj with
    | 0, _ => exact (show (levW w).cell? ⟨w.heap.size + 3, 0, none⟩ = some (.string ⟨#[94]⟩) by simp [levW, go_sem])
    | j + 1, hj => exact absurd hj (by simp [levelsL])
  | 4, _ =>
    match j, hj with
    | 0, _ => exact (show (levW w).cell? ⟨w.heap.size + 4, 0, none⟩ = some (.string ⟨#[38]⟩) by simp [levW, go_sem])
    | j + 1, hj => exact absurd hj (by simp [levelsL])
  | 5, _ =>
    match j, hj with
    | 0, _ => exact (show (levW w).cell? ⟨w.heap.size + 5, 0, none⟩ = some (.string ⟨#[61, 61]⟩) by simp [levW, go_sem])
    | 1, _ => exact (show (levW w).cell? ⟨w.heap.size + 5, 1, none⟩ = some (.string ⟨#[33, 61]⟩) by simp [levW, go_sem])
    | j + 2, hj => exact absurd hj (by simp [levelsL])
  | 6, _ =>
    match j, hj with
    | 0, _ => exact (show (levW w).cell? ⟨w.heap.size + 6, 0, none⟩ = some (.string ⟨#[60]⟩) by simp [levW, go_sem])
    | 1, _ => exact (show (levW w).cell? ⟨w.heap.size + 6, 1, none⟩ = some (.string ⟨#[60, 61]⟩) by simp [levW, go_sem])
    | 2, _ => exact (show (levW w).cell? ⟨w.heap.size + 6, 2, none⟩ = some (.string ⟨#[62]⟩) by simp [levW, go_sem])
    | 3, _ => exact (show (levW w).cell? ⟨w.heap.size + 6, 3, none⟩ = some (.string ⟨#[62, 61]⟩) by simp [levW, go_sem])
    | j + 4, hj => exact absurd hj (by simp [levelsL])
  | 7, _ =>
    match j, hj with
    | 0, _ => exact (show (levW w).cell? ⟨w.heap.size + 7, 0, none⟩ = some (.string ⟨#[60, 60]⟩) by simp [levW, go_sem])
    | 1, _ => exact (show (levW w).cell? ⟨w.heap.size + 7, 1, none⟩ = some (.string ⟨#[62, 62]⟩) by simp [levW, go_sem])
    | j + 2, hj => exact absurd hj (by simp [levelsL])
  | 8, _ =>
    match j, hj with
    | 0, _ => exact (show (levW w).cell? ⟨w.heap.size + 8, 0, none⟩ = some (.string ⟨#[43]⟩) by simp [levW, go_sem])
    | 1, _ => exact (show (levW w).cell? ⟨w.heap.size + 8, 1, none⟩ = some (.string ⟨#[45]⟩) by simp [levW, go_sem])
    | j + 2, hj => exact absurd hj (by simp [levelsL])
  | 9, _ =>
    match j, hj with
    | 0, _ => exact (show (levW w).cell? ⟨w.heap.size + 9, 0, none⟩ = some (.string ⟨#[42]⟩) by simp [levW, go_sem])
    | 1, _ => exact (show (levW w).cell? ⟨w.heap.size + 9, 1, none⟩ = some (.string ⟨#[47]⟩) by simp [levW, go_sem])
    | 2, _ => exact (show (levW w).cell? ⟨w.heap.size + 9, 2, none⟩ = some (.string ⟨#[37]⟩) by simp [levW, go_sem])
    | j + 3, hj => exact absurd hj (by simp [levelsL])

theorem lev_below (w : World) : Below w.heap.size w (levW w) := by
  unfold levW
  refine Below.alloc ?_ (by simp; try omega) _
  refine Below.alloc ?_ (by simp; try omega) _
  refine Below.alloc ?_ (by simp; try omega) _
  refine Below.alloc ?_ (by simp; try omega) _
  refine Below.alloc ?_ (by simp; try omega) _
  refine Below.alloc ?_ (by simp; try omega) _
  refine Below.alloc ?_ (by simp; try omega) _
  refine Below.alloc ?_ (by simp; try omega) _
  refine Below.alloc ?_ (by simp; try omega) _
  refine Below.alloc ?_ (by simp; try omega) _
  refine Below.alloc ?_ (by simp; try omega) _
  exact Below.refl _ _
theorem lev_len : ∀ k, k < 10 → (levelsL.getD k []).length ≤ 9223372036854775807 := by decide
theorem lev_at (w : World) : LevAt w.heap.size (w.heap.size + 1 + 1 + 1 + 1 + 1 + 1 + 1 + 1 + 1 + 1) (levW w) := ⟨lev_row w, lev_str w⟩
theorem lev_hit {x : List UInt8} {k : Nat} (h : k < 10) (hp : (levelsL.getD k []).contains x = true) (hr : levelFrom x k (levelsL.drop k) = levelI x) : (k : Int) = levelI x := by
  have hl : k < levelsL.length := h
  rw [List.drop_eq_getElem_cons hl, levelFrom] at hr
  rw [List.getD_eq_getElem?_getD, List.getElem?_eq_getElem hl, Option.getD_some] at hp
  rw [if_pos hp] at hr
  exact hr
theorem lev_miss {x : List UInt8} {k : Nat} (h : k < 10) (hp : (levelsL.getD k []).contains x = false) (hr : levelFrom x k (levelsL.drop k) = levelI x) : levelFrom x ((k + 1 : Nat) : Int) (levelsL.drop (k + 1)) = levelI x := by
  have hl : k < levelsL.length := h
  rw [List.drop_eq_getElem_cons hl, levelFrom] at hr
  rw [List.getD_eq_getElem?_getD, List.getElem?_eq_getElem hl, Option.getD_some] at hp
  rw [if_neg (by rw [hp]; decide)] at hr
  simpa using hr
theorem lev_end {x : List UInt8} {k : Nat} (h : k ≤ 10) (h' : ¬ k < 10) (hr : levelFrom x k (levelsL.drop k) = levelI x) : (-1 : Int) = levelI x := by
  obtain rfl : k = 10 := by omega
  exact hr
theorem contains_row (L : List (List UInt8)) (x : List UInt8) : Lib.containsS ((L.map fun y => (⟨y.toArray⟩ : ByteArray)).take L.length) ⟨x.toArray⟩ = L.contains x := by
  rw [List.take_of_length_le (by simp), Bool.eq_iff_iff, Lib.containsS_iff]
  simp
set_option maxHeartbeats 4000000 in
set_option maxRecDepth 100000 in
theorem level_any (x : List UInt8) (w : World) : Calls Tryz.prog 125 #[.string ⟨x.toArray⟩] w fun e w' => e = .returned (.int .i64 (levelI x)) ∧ Below w.heap.size w w' := by
  have HL := Lib.hid (lev_at w)
  have HB := Lib.hid (lev_below w)
  go_enter Tryz.func125, Tryz.ntmps125
  go_wp2_with fail
  change Code.wp _ _ _ _ (levW w)
  generalize levW w = W at *
  generalize w.heap.size + 1 + 1 + 1 + 1 + 1 + 1 + 1 + 1 + 1 + 1 = T at *
  go_loop [18] (fun i => ∃ k : Nat, k ≤ 10 ∧ i = .int .i64 k ∧ levelFrom x k (levelsL.drop k) = levelI x) (fun i => 10 - (intOf i).toNat)
  case atStart => exact ⟨0, Nat.zero_le _, rfl, rfl⟩
  case round =>
    obtain ⟨k, hk, rfl, hr⟩ := hrel
    have Hr := Lib.hid hr
    clear hr
    by_cases hlt : k < 10
    · have hc := HL.out.row k hlt
      have HC := Lib.hid (Tryz.slices_Contains_string (w.heap.size + k) 0 (levelsL.getD k []).length (levelsL.getD k []).length ((levelsL.getD k []).map fun x => (⟨x.toArray⟩ : ByteArray)) ⟨x.toArray⟩ W (by simp) (lev_len k hlt) (HL.out.str k hlt))
      rw [contains_row] at HC
      have hlv := HC
      cases hp : (levelsL.getD k []).contains x
      · rw [hp] at HC
        have HP := Lib.hid hp
        clear hp hlv
        generalize (levelsL.getD k []).length = m at *
        go_wp2_with fail
        refine (HC.out).mono ?_
        rintro e w' ⟨rfl, rfl⟩
        go_wp2
        go_round
        case rel => exact ⟨k + 1, by omega, by go_num, lev_miss hlt HP.out Hr.out⟩
        case measure => simp [intOf]; omega
      · rw [hp] at HC
        have HP := Lib.hid hp
        clear hp hlv
        generalize (levelsL.getD k []).length = m at *
        go_wp2_with fail
        refine (HC.out).mono ?_
        rintro e w' ⟨rfl, rfl⟩
        go_wp2
        go_ret
        refine ⟨?_, HB.out⟩
        rw [← lev_hit hlt HP.out Hr.out]
        rfl
    · go_wp2
      go_ret
      refine ⟨?_, HB.out⟩
      rw [← lev_end hk hlt Hr.out]
      rfl
end Go.Proofs.YtnalgnklgmoepaaGreatDoor
namespace Go.Proofs.YtnalgnklgmoepaaGreatDoor
open Go Go.RowKit

/-- Nodes in a row of their own, all of whose blocks are ok. -/
def BuildP (w : World) (ok : Nat → Prop) (ts : List Tree) (v : Value) : Prop :=
  ∃ vs, w.ownsRow 0 26 6 v ts.length (rowC ts vs) ∧ (∀ g, v.ownBlock = some g → ok g) ∧ LiesL w (fun g => ok g ∧ some g ≠ v.ownBlock) ts vs
theorem BuildP.move {w w' : World} {ok ok' : Nat → Prop} {ts : List Tree} {v : Value} (h : BuildP w ok ts v) (hm : ∀ g, g < w.heap.size → ok g → ok' g ∧ w'.heap[g]? = w.heap[g]?) : BuildP w' ok' ts v := by
  obtain ⟨vs, h1, h2, h3⟩ := h
  refine ⟨vs, ⟨h1.1, ?_⟩, fun g hg => (hm g (h1.lt g hg).2 (h2 g hg)).1, LiesL.move (fun g hg hok => ⟨⟨(hm g hg hok.1).1, hok.2⟩, (hm g hg hok.1).2⟩) ts vs h3⟩
  rcases h1.2 with h | ⟨g, cap, cur, rfl, hb, hgg, rest⟩
  · exact .inl h
  · exact .inr ⟨g, cap, cur, rfl, hb, ((hm g (Array.getElem?_eq_some_iff.1 hgg).1 (h2 g rfl)).2).trans hgg, rest⟩
theorem BuildP.of {w : World} {lo : Nat} {ts : List Tree} {v : Value} (h : Build w lo ts v) : BuildP w (fun g => lo ≤ g) ts v := by
  obtain ⟨vs, h1, h2⟩ := h
  exact ⟨vs, owns_mono h1 (Nat.zero_le _), fun g hg => (h1.lt g hg).1, h2⟩
theorem BuildP.build {w : World} {ok : Nat → Prop} {lo : Nat} {ts : List Tree} {v : Value} (h : BuildP w ok ts v) (hl : ∀ g, ok g → lo ≤ g) : Build w lo ts v := by
  obtain ⟨vs, h1, h2, h3⟩ := h
  exact ⟨vs, owns_any h1 (fun g hg => hl g (h2 g hg)), LiesL.move (fun g _ hok => ⟨⟨hl g hok.1, hok.2⟩, rfl⟩) ts vs h3⟩
theorem BuildP.lies {w : World} {ok : Nat → Prop} {t : Tree} {v : Value} (h : BuildP w ok t.kids v) : Lies w ok t v := by
  obtain ⟨vs, h1, h2, h3⟩ := h
  cases t with
  | mk k x n l c ks => exact ⟨vs, h2, h1, LiesL.move (fun g _ hg => ⟨hg.1, rfl⟩) _ vs h3⟩
theorem BuildP.grown {w w' : World} {ok : Nat → Prop} {ts : List Tree} {v : Value} {r : Option Nat} (h : BuildP w ok ts v) (hg : w.grownBy w' r) (hr : ∀ k, r = some k → ¬ ok k ∨ w.heap.size ≤ k) : BuildP w' ok ts v :=
  h.move fun g hlt hok => ⟨hok, hg.block g hlt (fun e => by rcases hr g e.symm with h | h; exact h hok; omega)⟩
theorem BuildP.below {w w' : World} {ok : Nat → Prop} {ts : List Tree} {v : Value} (h : BuildP w ok ts v) (hb : Below w.heap.size w w') : BuildP w' ok ts v := h.grown (below_grown hb none) (fun _ e => by cases e)
theorem BuildP.shape {w : World} {ok : Nat → Prop} {ts : List Tree} {v : Value} (h : BuildP w ok ts v) : ∃ p n c, v = .slice p n c := by
  obtain ⟨vs, h1, _⟩ := h
  rcases h1.2 with ⟨rfl, _⟩ | ⟨g, cap, cur, rfl, _⟩
  · exact ⟨_, _, _, rfl⟩
  · exact ⟨_, _, _, rfl⟩
theorem BuildP.lit2 {w : World} {ok : Nat → Prop} {t s : Tree} {u v : Value} (h : BuildP w ok t.kids u) (h' : BuildP w ok s.kids v) (hn : ok w.heap.size) :
    BuildP (w.alloc (.cells (nodeC t u ++ nodeC s v).toArray 26)) ok [t, s] (.slice (some ⟨w.heap.size, 0, none⟩) 2 2) := by
  refine ⟨[u, v], ?_, fun g hg => by simp [Value.ownBlock] at hg; subst hg; exact hn, ?_, ?_, trivial⟩
  · simpa [rowC] using World.ownsRow_lit (base := 0) (e := 26) (size := 6) w (nodeC t u ++ nodeC s v).toArray 2 (by omega) (by decide) (by simp [nodeC])
  · exact Lies.move (fun g hg hok => ⟨⟨hok, by simp [Value.ownBlock]; omega⟩, heap_alloc_old w _ hg⟩) t u h.lies
  · exact Lies.move (fun g hg hok => ⟨⟨hok, by simp [Value.ownBlock]; omega⟩, heap_alloc_old w _ hg⟩) s v h'.lies
theorem levelFrom_bd (x : List UInt8) : ∀ (L : List (List (List UInt8))) (i : Int), 0 ≤ i → -1 ≤ levelFrom x i L ∧ levelFrom x i L ≤ i + L.length
  | [], i, h => by simp [levelFrom]; omega
  | g :: gs, i, h => by
    rw [levelFrom]
    split
    · simp; omega
    · have := levelFrom_bd x gs (i + 1) (by omega)
      simp at *
      omega
theorem levelI_bd (x : List UInt8) : -1 ≤ levelI x ∧ levelI x ≤ 9 := by
  have h := levelFrom_bd x levelsL 0 (by omega)
  have hn : ∀ (L : List (List (List UInt8))) (i : Int), levelFrom x i L < i + L.length ∨ levelFrom x i L = -1 := by
    intro L
    induction L with
    | nil => intro i; exact .inr rfl
    | cons g gs ih =>
      intro i
      rw [levelFrom]
      split
      · left; simp; omega
      · rcases ih (i + 1) with h | h
        · left; simp at *; omega
        · right; exact h
  have h2 := hn levelsL 0
  have h3 : (levelsL.length : Int) = 10 := rfl
  unfold levelI
  omega
def BinRel (rec : NT → Int → List Tok → PR Tree) (k d : Int) (R : PR Tree) (w : World) (B Lb : Nat) (m : Nat) (wr : World) : Prop :=
  ∃ left l v, St w B l d wr ∧ LNode Lb left.kind left.text left.num left.line left.col v wr ∧ BuildP wr (fun g => w.heap.size + 1 ≤ g ∧ g ≠ Lb) left.kids v ∧ binLoop rec k d m left l = R

set_option maxHeartbeats 4000000 in
set_option maxRecDepth 100000 in
theorem binary_does (rec : NT → Int → List Tok → PR Tree) (n : Nat) (k d : Int) (hk0 : 0 ≤ k) (hk : k ≤ 10) (hop : Does 150 (fun p => #[p]) d (rec .operand d)) (hbi : ∀ j, 0 ≤ j → j ≤ 10 → Does 145 (fun p => #[p, .int .i64 j]) d (rec (.binary j) d)) :
    Does 145 (fun p => #[p, .int .i64 k]) d (binaryP rec n k d) := by
  intro B l w h hno
  have S0 := St.start h
  have hBw := S0.hB
  have hno1 : rec .operand d l ≠ .out := bind_out hno
  have HC := Lib.hid (hop B l _ S0.ps hno1)
  have HNO := Lib.hid hno
  have HNO1 := Lib.hid hno1
  have HBI := Lib.hid hbi
  have HS := Lib.hid S0
  have hft := field_text
  clear h S0 hno hno1 hop hbi
  unfold zero6 at *
  go_enter Tryz.func145, Tryz.ntmps145
  go_wp2_with fail
  refine (HC.out).mono ?_
  intro e w1 hq
  rcases hq.cases HNO1.out with ⟨t1, l1, q1, n1, c1, he1, rfl, hb1, hP1, hg1⟩ | ⟨ln, c, code, he1, rfl, hg1⟩
  rotate_left
  · refine ⟨rfl, ?_⟩
    rw [show binaryP rec n k d l = .bad ln c code from bind_bad he1]
    exact HS.out.pan ⟨rfl, hg1⟩
  have hres : binaryP rec n k d l = binLoop rec k d n t1 l1 := bind_ok he1
  have HR := Lib.hid hres
  have S1 := HS.out.call hP1 hg1
  have hwL : w.heap.size < w1.heap.size := S1.lt
  have HS1 := Lib.hid (S1.alloc (nodO t1.kind t1.text t1.num t1.line t1.col (.slice q1 n1 c1)))
  have HL1 := Lib.hid (LNode.new t1.kind t1.text t1.num t1.line t1.col (.slice q1 n1 c1) w1)
  have hbp : BuildP (w1.alloc (nodO t1.kind t1.text t1.num t1.line t1.col (.slice q1 n1 c1))) (fun g => w.heap.size + 1 ≤ g ∧ g ≠ w1.heap.size) t1.kids (.slice q1 n1 c1) :=
    (BuildP.of (hb1.mono (lo' := w.heap.size + 1) HS.out.lt)).move fun g hg hok => ⟨⟨hok, by omega⟩, heap_alloc_old w1 _ hg⟩
  have HB1 := Lib.hid hbp
  clear hres S1 hP1 hg1 hb1 he1 hq HC HS hbp
  unfold nodO nodeV at *
  go_wp2_with fail
  go_loopg [] n (fun m wr => BinRel rec k d (binLoop rec k d n t1 l1) w B w1.heap.size m wr)
  case atStart => exact ⟨t1, l1, _, HS1.out, HL1.out, HB1.out, rfl⟩
  case round =>
    obtain ⟨left, l2, v, S, L, Bp, hm⟩ := hrel
    obtain ⟨t, r, rfl⟩ := S.ps.ends.ne
    obtain ⟨q, vn, vc, rfl⟩ := Bp.shape
    have HM := Lib.hid hm
    cases gk with
    | zero =>
      exact absurd (HR.out.trans HM.out.symm) HNO.out
    | succ m =>
    have H := Lib.hid (peek_any B t r d _ S.ps)
    have HS := Lib.hid S
    have HL := Lib.hid L
    have HB := Lib.hid Bp
    clear S L Bp hm HS1 HL1 HB1
    go_wp2_with fail
    refine (H.out).mono ?_
    rintro e w3 ⟨rfl, hb3⟩
    have HV := Lib.hid (level_any t.text)
    have HS3 := Lib.hid (HS.out.below hb3)
    have HL3 := Lib.hid (HL.out.below hb3)
    have HB3 := Lib.hid (HB.out.below hb3)
    clear H HS HL HB hb3
    unfold tokW tokV
    go_wp2_with fail
    refine (HV.out _).mono ?_
    rintro e w4 ⟨rfl, hb4⟩
    have HS4 := Lib.hid (HS3.out.below hb4)
    have HL4 := Lib.hid (HL3.out.below hb4)
    have HB4 := Lib.hid (HB3.out.below hb4)
    have hbd := levelI_bd t.text
    clear HS3 HL3 HB3 hb4 HV
    have hstep : binLoop rec k d (m + 1) left (t :: r) = if levelI t.text < k then .ok left (t :: r) else (rec (.binary (levelI t.text + 1)) d r).bind fun s l' => binLoop rec k d m (.mk kBinary t.text 0 t.line t.col [left, s]) l' := by
      rw [binLoop, hdT_cons]
      simp only [takeP, PR.bind, if_true]
    by_cases hlt : levelI t.text < k
    · rw [if_pos hlt] at hstep
      have HST := Lib.hid (HR.out.trans (HM.out.symm.trans hstep))
      have hlb : decide (levelI t.text < k) = true := by simpa using hlt
      have hs1 := HS4.out.lt
      have hs2 := HL4.out.lt
      have hr := HS4.out.res
      have r0 := hr.c0; have r1' := hr.c1; have r2 := hr.c2; have r3 := hr.c3; have r4 := hr.c4; have r5 := hr.c5
      have g0 := hr.f 0 (by omega); have g1 := hr.f 1 (by omega); have g2 := hr.f 2 (by omega); have g3 := hr.f 3 (by omega); have g4 := hr.f 4 (by omega); have g5 := hr.f 5 (by omega)
      clear hr
      have hq := HL4.out
      have qn0 := hq.c0; have qn1 := hq.c1; have qn2 := hq.c2; have qn3 := hq.c3; have qn4 := hq.c4; have qn5 := hq.c5
      clear hq hstep HL4
      generalize hA : levelI t.text = lv at *
      go_wp2
      refine bodyPost_ret (v := nodeV left (.slice q vn vc)) (by simp [results, Tryz.results145, go_sem, nodeV, *]) rfl ?_
      rw [HST.out]
      exact HS4.out.fin (HB4.out.build fun g hg => hg.1) _ _ _ _ _ _
    · rw [if_neg hlt] at hstep
      have hlb : decide (levelI t.text < k) = false := by simpa using hlt
      have HST := Lib.hid (HM.out.symm.trans hstep)
      have hte : t.text ≠ [] := fun e => hlt (by rw [e]; exact (show levelI [] < k from by have : levelI [] = -1 := rfl; omega))
      have H := Lib.hid (take_yes B t r d _ HS4.out.ps hte)
      have HNb := Lib.hid (node_any t ⟨kBinary.toArray⟩ ⟨t.text.toArray⟩)
      have hno5 : rec (.binary (levelI t.text + 1)) d r ≠ .out := fun e => HNO.out (HR.out.trans (HST.out.trans (by rw [e]; rfl)))
      have HNO5 := Lib.hid hno5
      have HC := Lib.hid (HBI.out (levelI t.text + 1) (by omega) (by omega))
      have hwr : IntKind.i64.wrap (levelI t.text + 1) = levelI t.text + 1 := by rw [IntKind.wrap_i64]; omega
      have hw64 : wrap64 (levelI t.text + 1) = levelI t.text + 1 := by unfold wrap64; omega
      clear hstep hno5
      generalize hA : levelI t.text = lv at *
      go_wp2_with fail
      refine (H.out).mono ?_
      rintro e w5 ⟨rfl, hP5, hg5⟩
      have HS5 := Lib.hid ((HS4.out.call hP5 hg5).alloc (tokO t))
      have HL5 := Lib.hid ((HL4.out.grown hg5 (by simp; omega)).alloc (tokO t))
      have HB5 := Lib.hid ((HB4.out.grown hg5 (fun j e => by cases e; exact .inl (fun h => by omega))).below ((Below.refl _ _).alloc (Nat.le_refl _) (tokO t)))
      have HT5 := Lib.hid (LTok.newO t w5)
      have hw5 : w.heap.size < w5.heap.size := (HS4.out.call hP5 hg5).lt
      have hl5 : w1.heap.size < w5.heap.size := (HL4.out.grown hg5 (by simp; omega)).lt
      clear H HS4 HL4 HB4 hP5 hg5
      unfold tokO tokW tokV at *
      have k0 := HT5.out.c0; have k1 := HT5.out.c1; have k2 := HT5.out.c2; have k3 := HT5.out.c3; have k4 := HT5.out.c4
      go_wp2_with fail
      refine (HNb.out _).mono ?_
      rintro e w6 ⟨rfl, hb6⟩
      have HS6 := Lib.hid ((HS5.out.below hb6).alloc (nodO kBinary t.text 0 t.line t.col (.slice none 0 0)))
      have HL6 := Lib.hid ((HL5.out.below hb6).alloc (nodO kBinary t.text 0 t.line t.col (.slice none 0 0)))
      have hB6 : BuildP (w6.alloc (nodO kBinary t.text 0 t.line t.col (.slice none 0 0))) (fun g => (w.heap.size + 1 ≤ g ∧ g ≠ w1.heap.size) ∧ g ≠ w6.heap.size) left.kids (.slice q vn vc) := (HB5.out.below hb6).move fun g hg hok => ⟨⟨hok, by omega⟩, heap_alloc_old w6 _ hg⟩
      have HB6 := Lib.hid hB6
      clear hB6
      have HN6 := Lib.hid (LNode.new kBinary t.text 0 t.line t.col (.slice none 0 0) w6)
      have hw6 : w5.heap.size < w6.heap.size := by have := hb6.size; simp at this; omega
      clear HNb HS5 HL5 HB5 HT5 hb6 k0 k1 k2 k3 k4
      unfold nodO at *
      go_wp2_with fail
      refine wp_region_T (S := fun w' => LNode w1.heap.size left.kind left.text left.num left.line left.col (.slice q vn vc) w') (tail := fun i => decide (5 ≤ i)) (by kernel_rfl) ?_
      change wpAnyT _ _ _ _ _ _ _ _ _ (World.drew _)
      have SS := Lib.hid HS6.out.drew
      have LL := Lib.hid (HL6.out.below (Below.refl _ _).drew)
      have BB := Lib.hid (HB6.out.below (Below.refl _ _).drew)
      have NN := Lib.hid (HN6.out.below (Below.refl _ _).drew)
      clear HS6 HL6 HB6 HN6
      generalize World.drew _ = wd at *
      refine wpAnyT_take (i := 0) (d := 25) (v := .agg #[.string ⟨left.kind.toArray⟩, .string ⟨left.text.toArray⟩, .int .u64 left.num, .int .i64 left.line, .int .i64 left.col, .slice q vn vc]) rfl rfl (by kernel_rfl) (fun _ _ _ h => h) (by rfl) ?y0 LL.out ?_
      case y0 => intro w' hw'; have h0 := hw'.c0; have h1 := hw'.c1; have h2 := hw'.c2; have h3 := hw'.c3; have h4 := hw'.c4; have h5 := hw'.c5; go_simp
      try simp only [Act.put, List.setIfInBounds_toArray, List.set_cons_zero, List.set_cons_succ]
      refine wpAnyT_take (i := 1) (d := 26) (v := .pointer (some ⟨B, 0, none⟩)) rfl rfl (by kernel_rfl) (fun _ _ _ h => h) (by rfl) ?y1 LL.out ?_
      case y1 => intro w' hw'; go_simp
      try simp only [Act.put, List.setIfInBounds_toArray, List.set_cons_zero, List.set_cons_succ]
      refine wpAnyT_take (i := 2) (d := 27) (v := .int .i64 lv) rfl rfl (by kernel_rfl) (fun _ _ _ h => h) (by rfl) ?y2 LL.out ?_
      case y2 => intro w' hw'; go_simp
      try simp only [Act.put, List.setIfInBounds_toArray, List.set_cons_zero, List.set_cons_succ]
      refine wpAnyT_take (i := 3) (d := 28) (v := .int .i64 (lv + 1)) rfl rfl (by kernel_rfl) (fun _ _ _ h => h) (by rfl) ?y3 LL.out ?_
      case y3 => intro w' hw'; go_simp
      try simp only [Act.put, List.setIfInBounds_toArray, List.set_cons_zero, List.set_cons_succ]
      refine wpAnyT_one (i := 4) rfl (by kernel_rfl) (by rfl) (fun K hK => ?_)
      go_simp
      refine (HC.out B r _ SS.out.ps HNO5.out).mono ?_
      intro e w7 hq
      rcases hq.cases HNO5.out with ⟨s7, l7, q7, n7, c7, he7, rfl, hb7, hP7, hg7⟩ | ⟨ln, c, code, he7, rfl, hg7⟩
      rotate_left
      · refine ⟨rfl, ?_⟩
        rw [HR.out, HST.out, he7]
        exact SS.out.pan ⟨rfl, hg7⟩
      have hsd := NN.out.lt
      have S7 := Lib.hid (SS.out.call hP7 hg7)
      have L7 := Lib.hid (LL.out.grown hg7 (by simp; omega))
      have B7 := Lib.hid (BB.out.grown hg7 (fun j e => by cases e; exact .inl (fun h => by omega)))
      have N7 := Lib.hid (NN.out.grown hg7 (by simp; omega))
      have hsr : wd.heap.size ≤ w7.heap.size := hg7.size
      have K7 : BuildP w7 (fun g => (w.heap.size + 1 ≤ g ∧ g ≠ w1.heap.size) ∧ g ≠ w6.heap.size) s7.kids (.slice q7 n7 c7) := (BuildP.of hb7).move fun g hg hok => ⟨⟨⟨by omega, by omega⟩, by omega⟩, rfl⟩
      have HK7 := Lib.hid K7
      have HE7 := Lib.hid he7
      have hfN := N7.out.f 5 (by omega)
      have hdN := N7.out.c5
      have hlN := N7.out.lt
      clear hP7 hg7 hb7 K7 he7 hq SS LL BB NN HC
      unfold nodeV
      refine hK.out _ _ (fun _ => L7.out) ?_
      clear hK K
      try simp only [Act.put, List.setIfInBounds_toArray, List.set_cons_zero, List.set_cons_succ]
      refine wpAnyT_one (i := 5) rfl (by kernel_rfl) (by rfl) (fun K hK => ?_)
      go_simp
      refine hK.out _ _ (fun h => absurd h (by decide)) ?_
      clear hK K
      try simp only [Act.put, List.setIfInBounds_toArray, List.set_cons_zero, List.set_cons_succ]
      refine wpAnyT_one (i := 6) rfl (by kernel_rfl) (by rfl) (fun K hK => ?_)
      go_simp
      refine hK.out _ _ (fun h => absurd h (by decide)) ?_
      clear hK K
      try simp only [Act.put, List.setIfInBounds_toArray, List.set_cons_zero, List.set_cons_succ]
      refine wpAnyT_one (i := 7) rfl (by kernel_rfl) (by rfl) (fun K hK => ?_)
      go_simp
      refine hK.out _ _ (fun h => absurd h (by decide)) ?_
      clear hK K
      try simp only [Act.put, List.setIfInBounds_toArray, List.set_cons_zero, List.set_cons_succ]
      refine wpAnyT_done (by kernel_rfl) ?_ _
      have x0 := N7.out.c0; have x1 := N7.out.c1; have x2 := N7.out.c2; have x3 := N7.out.c3; have x4 := N7.out.c4
      have z0 := L7.out.c0; have z1 := L7.out.c1; have z2 := L7.out.c2; have z3 := L7.out.c3; have z4 := L7.out.c4; have z5 := L7.out.c5
      have y0 := L7.out.f 0 (by omega); have y1 := L7.out.f 1 (by omega); have y2 := L7.out.f 2 (by omega); have y3 := L7.out.f 3 (by omega); have y4 := L7.out.f 4 (by omega); have y5 := L7.out.f 5 (by omega)
      have hlL := L7.out.lt
      unfold kBinary at x0
      go_wp2
      go_roundg m
      case measure => omega
      case rel =>
        have h1 := (B7.out.grown (grown_setB w7 w6.heap.size 5 (.slice (some ⟨w7.heap.size, 0, none⟩) 2 2)) (fun j e => by cases e; exact .inl (fun h => h.2 rfl))).grown (six_own _ w1.heap.size (.string ⟨kBinary.toArray⟩) (.string ⟨t.text.toArray⟩) (.int .u64 0) (.int .i64 t.line) (.int .i64 t.col) (.slice (some ⟨w7.heap.size, 0, none⟩) 2 2)) (fun j e => by cases e; exact .inl (fun h => h.1.2 rfl))
        have h2 := (HK7.out.grown (grown_setB w7 w6.heap.size 5 (.slice (some ⟨w7.heap.size, 0, none⟩) 2 2)) (fun j e => by cases e; exact .inl (fun h => h.2 rfl))).grown (six_own _ w1.heap.size (.string ⟨kBinary.toArray⟩) (.string ⟨t.text.toArray⟩) (.int .u64 0) (.int .i64 t.line) (.int .i64 t.col) (.slice (some ⟨w7.heap.size, 0, none⟩) 2 2)) (fun j e => by cases e; exact .inl (fun h => h.1.2 rfl))
        have hsz : (six (w7.setCell ⟨w6.heap.size, 5, none⟩ (.slice (some ⟨w7.heap.size, 0, none⟩) 2 2)) w1.heap.size (.string ⟨kBinary.toArray⟩) (.string ⟨t.text.toArray⟩) (.int .u64 0) (.int .i64 t.line) (.int .i64 t.col) (.slice (some ⟨w7.heap.size, 0, none⟩) 2 2)).heap.size = w7.heap.size := by simp [six]
        have h3 := (h1.lit2 h2 (by rw [hsz]; exact ⟨⟨by omega, by omega⟩, by omega⟩)).move (ok' := fun g => w.heap.size + 1 ≤ g ∧ g ≠ w1.heap.size) fun g _ hok => ⟨hok.1, rfl⟩
        rw [hsz] at h3
        refine ⟨.mk kBinary t.text 0 t.line t.col [left, s7], l7, _, ((S7.out.setN (by omega) _ _).six hwL _ _ _ _ _ _).alloc _, ((L7.out.grown (grown_setB _ _ _ _) (by simp; omega)).six kBinary t.text 0 t.line t.col _).alloc _, h3, ?_⟩
        rw [HST.out, HE7.out]
        rfl
end Go.Proofs.YtnalgnklgmoepaaGreatDoor
namespace Go.Proofs.YtnalgnklgmoepaaGreatDoor
open Go Go.RowKit

/-- An append of nodes to a row. -/
theorem append_core {o : Oper} {a : Act} {K : Act → World → Prop} {Q : Exit → Act → World → Prop} {w : World} {ok : Nat → Prop} {acc ts : List Tree} {us : List Value} {v : Value} {ad : Addr} {c : Nat} (s x : Operand)
    (ho : o.op = .call { callee := .builtin .append, args := #[s, x], argTypes := #[24, 24] }) (hB : BuildP w ok acc v)
    (hs : a.eval s = v) (hx : a.eval x = .slice (some ad) ts.length c) (hm : 0 < ts.length) (hnews : ∀ (j : Nat) (u : Value), (rowC ts us)[j]? = some u → w.cell? (ad.add j) = some u)
    (hn : acc.length + ts.length ≤ 1000000) (hok : ok w.heap.size) (hL : LiesL w (fun g => ok g ∧ some g ≠ v.ownBlock) ts us)
    (h : ∀ v' w', BuildP w' ok (acc ++ ts) v' → w.grownBy w' v.ownBlock → K (a.put o.dst v') w') :
    o.wp Tryz.prog a w K Q := by
  obtain ⟨vs, h1, h0, h2⟩ := hB
  obtain ⟨i0, hi, hz0, hz1, hz2⟩ := info_parts Tryz.info26
  have hlen := LiesL.length acc vs h2
  have hlen2 := LiesL.length ts us hL
  have hone := rowC_one ts us (LiesL.one ts us hL)
  have hrl := rowC_len ts us hlen2
  obtain ⟨v', w', hr, ho', hg', _⟩ := run_append_own (P := Tryz.prog) w 0 24 o.type 26 i0 _ 6 80 Tryz.underlying24 hi hz0 hz1 hz2 rfl (by decide) v acc.length _ h1 ad ts.length c (rowC ts us) hrl hnews hone (by unfold maxLen; omega) (by omega) (Nat.zero_le _)
  have hbk := append_block (P := Tryz.prog) w 0 24 o.type 26 i0 _ 6 80 Tryz.underlying24 hi hz0 hz1 hz2 v acc.length _ h1 ad ts.length c (rowC ts us) hrl hnews hone (by unfold maxLen; omega) (by omega) hm v' w' hr
  have hst : ∀ g, g < w.heap.size → some g ≠ v.ownBlock → w'.heap[g]? = w.heap[g]? := fun g hg hne => hg'.block g hg hne
  have hv' : ∀ g, g < w.heap.size → some g ≠ v.ownBlock → some g ≠ v'.ownBlock := fun g hg hne e => by
    rcases hbk with h | h
    · exact hne (e.trans h)
    · rw [h] at e
      injection e with e
      omega
  have hK := h v' w' ⟨vs ++ us, by rw [rowC_append acc ts vs us hlen, List.length_append]; exact ho', fun g hg => by
      rcases hbk with h | h
      · exact h0 g (h ▸ hg)
      · rw [h] at hg; injection hg with hg; subst hg; exact hok,
    LiesL.append acc ts vs us (LiesL.move (fun g hg hok => ⟨⟨hok.1, hv' g hg hok.2⟩, hst g hg hok.2⟩) acc vs h2) (LiesL.move (fun g hg hok => ⟨⟨hok.1, hv' g hg hok.2⟩, hst g hg hok.2⟩) ts us hL)⟩ hg'
  unfold Oper.wp execOp
  simp only [ho, resolve, invoke, builtin, Sem.run_bind, Sem.run_pure, Result.andThen_ok, List.map_toArray, List.map_cons, List.map_nil, hs, hx, hr]
  exact hK
theorem append_atX {o : Oper} {a : Act} {K : Act → World → Prop} {Q : Exit → Act → World → Prop} {w : World} {ok : Nat → Prop} {lo1 S dd : Nat} {acc : List Tree} {t : Tree} {v u : Value} (s x : Operand)
    (ho : o.op = .call { callee := .builtin .append, args := #[s, x], argTypes := #[24, 24] }) (hd : o.dst = some dd) (hB : BuildP w ok acc v) (hK : Build w lo1 t.kids u) (hok : ∀ g, lo1 ≤ g → ok g) (hv : ∀ g, v.ownBlock = some g → g < lo1) (hl1 : lo1 ≤ w.heap.size)
    (hs : a.eval s = v) (hS : w.heap.size = S) (hx : a.eval x = .slice (some ⟨S, 0, none⟩) 1 1) (hn : acc.length < 1000000)
    (h : ∀ v' w', BuildP w' ok (acc ++ [t]) v' → (w.alloc (.cells (nodeC t u).toArray 26)).grownBy w' v.ownBlock → K (a.put (some dd) v') w') :
    o.wp Tryz.prog a (w.alloc (.cells (nodeC t u).toArray 26)) K Q := by
  subst hS
  refine append_core s x ho (hB.below ((Below.refl _ _).alloc (Nat.le_refl _) _)) (ts := [t]) (us := [u]) hs hx (by simp) ?_ (by simp; omega) (hok _ (by simp; omega)) ⟨Lies.move (fun g hg hok' => ?_) t u (hK.alloc (.cells (nodeC t u).toArray 26)).lies, trivial⟩ (fun v' w' h1 h2 => by rw [hd]; exact h v' w' h1 h2)
  · simpa [rowC] using nodeC_new w t u 26
  · have hne : some g ≠ v.ownBlock := fun e => by have := hv g e.symm; omega
    exact ⟨⟨hok g hok', hne⟩, rfl⟩
/-- A variable with a node that was handed back, whose kids grow: no row lies in the variable's block. -/
structure NdX (N lo : Nat) (k x : List UInt8) (n ln c : Int) (v : Value) (ts : List Tree) (w : World) : Prop where
  nd : LNode N k x n ln c v w
  bd : BuildP w (fun g => lo ≤ g ∧ g ≠ N) ts v
theorem NdX.lt {N lo : Nat} {k x : List UInt8} {n ln c : Int} {v : Value} {ts : List Tree} {w : World} (h : NdX N lo k x n ln c v ts w) : N < w.heap.size := h.nd.lt
theorem NdX.call {N lo B : Nat} {k x : List UInt8} {n ln c : Int} {v : Value} {ts : List Tree} {w w' : World} (h : NdX N lo k x n ln c v ts w) (hg : w.grownBy w' (some B)) (hB : B < N ∧ B < lo) : NdX N lo k x n ln c v ts w' :=
  ⟨h.nd.grown hg (by simp; omega), h.bd.grown hg (fun j e => by cases e; exact .inl (fun h => by omega))⟩
theorem NdX.below {N lo : Nat} {k x : List UInt8} {n ln c : Int} {v : Value} {ts : List Tree} {w w' : World} (h : NdX N lo k x n ln c v ts w) (hb : Below w.heap.size w w') : NdX N lo k x n ln c v ts w' := ⟨h.nd.below hb, h.bd.below hb⟩
theorem NdX.alloc {N lo : Nat} {k x : List UInt8} {n ln c : Int} {v : Value} {ts : List Tree} {w : World} (h : NdX N lo k x n ln c v ts w) (o : Obj) : NdX N lo k x n ln c v ts (w.alloc o) := h.below ((Below.refl _ _).alloc (Nat.le_refl _) o)
theorem NdX.drew {N lo : Nat} {k x : List UInt8} {n ln c : Int} {v : Value} {ts : List Tree} {w : World} (h : NdX N lo k x n ln c v ts w) : NdX N lo k x n ln c v ts w.drew := h.below (Below.refl _ _).drew
theorem NdX.own {N lo : Nat} {k x : List UInt8} {n ln c : Int} {v : Value} {ts : List Tree} {w : World} (h : NdX N lo k x n ln c v ts w) : ∀ g, v.ownBlock = some g → lo ≤ g ∧ g ≠ N ∧ g < w.heap.size := fun g hg => by
  obtain ⟨vs, h1, h2, _⟩ := h.bd
  exact ⟨(h2 g hg).1, (h2 g hg).2, (h1.lt g hg).2⟩
theorem NdX.put (t : Tree) {lo : Nat} {v : Value} {w : World} (h : Build w lo t.kids v) : NdX w.heap.size lo t.kind t.text t.num t.line t.col v t.kids (w.alloc (nodO t.kind t.text t.num t.line t.col v)) :=
  ⟨LNode.new _ _ _ _ _ _ w, (BuildP.of h).move fun g hg hok => ⟨⟨hok, by omega⟩, heap_alloc_old w _ hg⟩⟩
theorem NdX.setK {N lo : Nat} {k x : List UInt8} {n ln c : Int} {v : Value} {ts : List Tree} {w : World} (h : NdX N lo k x n ln c v ts w) (k' : List UInt8) : NdX N lo k' x n ln c v ts (w.setCell ⟨N, 0, none⟩ (.string ⟨k'.toArray⟩)) := by
  have h0 := h.nd.c0; have h1 := h.nd.c1; have h2 := h.nd.c2; have h3 := h.nd.c3; have h4 := h.nd.c4; have h5 := h.nd.c5; have hf := h.nd.f
  refine ⟨?_, h.bd.grown (grown_setB _ _ _ _) (fun j e => by cases e; exact .inl (fun h => h.2 rfl))⟩
  constructor
  case f => intro k hk; have := hf k hk; simp [go_sem, *]
  all_goals simp [go_sem, *]
theorem app_finX {w0 w6 w7 : World} {B N lo : Nat} {l : List Tok} {d : Int} {k x : List UInt8} {n ln c : Int} {v v7 : Value} {acc ts : List Tree} {o : Obj} (S : St w0 B l d w6) (Nn : NdX N lo k x n ln c v acc w6) (hw : w0.heap.size < N) (hwl : w0.heap.size < lo)
    (hb7 : BuildP w7 (fun g => lo ≤ g ∧ g ≠ N) ts v7) (hg7 : (w6.alloc o).grownBy w7 v.ownBlock) : St w0 B l d (w7.setCell ⟨N, 5, none⟩ v7) ∧ NdX N lo k x n ln c v7 ts (w7.setCell ⟨N, 5, none⟩ v7) := by
  have hlt := Nn.own
  refine ⟨((S.alloc o).local hg7 (fun j e => by have := (hlt j e).1; omega)).setN hw _ _, ?_, hb7.grown (grown_setB _ _ _ _) (fun j e => by cases e; exact .inl (fun h => h.2 rfl))⟩
  exact ((Nn.nd.grown (World.grownBy_alloc w6 o none) (by simp)).grown hg7 (fun e => by have := (hlt N e.symm).2.1; exact this rfl)).set5 v7

theorem bind_inv {α β : Type} {p : PR α} {f : α → List Tok → PR β} {b : β} {l : List Tok} (h : p.bind f = .ok b l) : ∃ a l', p = .ok a l' ∧ f a l' = .ok b l := by
  cases p with
  | ok a l' => exact ⟨a, l', rfl, h⟩
  | bad ln c code => simp [PR.bind] at h
  | out => simp [PR.bind] at h
theorem guarded_kids {rec : NT → Int → List Tok → PR Tree} {word : List UInt8} {d : Int} {l l' : List Tok} {t : Tree} (h : guardedP rec word d l = .ok t l') : t.kids.length < 1000000 := by
  unfold guardedP at h
  obtain ⟨_, _, _, h⟩ := bind_inv h
  obtain ⟨_, _, _, h⟩ := bind_inv h
  obtain ⟨_, _, _, h⟩ := bind_inv h
  obtain ⟨_, _, _, h⟩ := bind_inv h
  injection h with h1 h2
  subst h1
  simp [Tree.kids]

set_option maxHeartbeats 2000000 in
set_option maxRecDepth 100000 in
theorem choice_does (rec : NT → Int → List Tok → PR Tree) (d : Int) (he : Enters 96) (hgu : Does 134 (fun p => #[p, .string ⟨#[105, 102]⟩]) d (guardedP rec kIf d)) (hbl : Does 96 (fun p => #[p]) (d + 1) (rec .block (d + 1))) : Does 119 (fun p => #[p]) d (choiceP rec d) := by
  intro B l w h hno
  obtain ⟨t, r, rfl⟩ := h.ends.ne
  have S0 := St.start h
  have hBw := S0.hB
  have HNO := Lib.hid hno
  have S0 := Lib.hid S0
  have hmf := makeFunc_run
  have hft := field_text
  have hfk := field_kind
  have HGU := Lib.hid hgu
  have HBL := Lib.hid (deeper_does 96 d (rec .block) he hbl)
  clear he hgu hbl
  clear h hno
  unfold zero6 at *
  go_enter Tryz.func119, Tryz.ntmps119
  have hnoc : guardedP rec kIf d (t :: r) ≠ .out := fun e => HNO.out (by simp only [Bool.false_eq_true, if_false, if_true, reduceIte, Bool.not_false, Bool.not_true, Bool.false_or, Bool.true_or, Bool.or_false, Bool.or_true, Bool.and_true, Bool.and_false, Bool.false_and, Bool.true_and, List.nil_append, List.cons_append, List.append_nil, choiceP, PR.bind, hdT_cons, e])
  have HC := Lib.hid (HGU.out B (t :: r) _ S0.out.ps hnoc)
  have HNOC := Lib.hid hnoc
  clear hnoc
  go_wp2_with fail
  refine (HC.out).mono ?_
  intro e w1 hq
  rcases hq.cases HNOC.out with ⟨t1, l1, q1, n1, c1, he1, rfl, hb1, hP1, hg1⟩ | ⟨ln, c, code, he1, rfl, hg1⟩
  rotate_left
  · refine ⟨rfl, ?_⟩
    have hbad : (choiceP rec d) (t :: r) = .bad ln c code := by simp only [Bool.false_eq_true, if_false, if_true, reduceIte, Bool.not_false, Bool.not_true, Bool.false_or, Bool.true_or, Bool.or_false, Bool.or_true, Bool.and_true, Bool.and_false, Bool.false_and, Bool.true_and, List.nil_append, List.cons_append, List.append_nil, choiceP, PR.bind, hdT_cons, he1]
    rw [hbad]
    exact S0.out.pan ⟨rfl, hg1⟩
  have hwN : w.heap.size < w1.heap.size := (S0.out.call hP1 hg1).lt
  have N1 := Lib.hid (NdX.put t1 (hb1.mono (lo' := w.heap.size + 1) S0.out.lt))
  have S1 := Lib.hid ((S0.out.call hP1 hg1).alloc (nodO t1.kind t1.text t1.num t1.line t1.col (.slice q1 n1 c1)))
  have HE1 := Lib.hid he1
  clear hq hb1 hP1 hg1 he1 HC HNOC S0
  unfold nodeV nodO at *
  have hkl : t1.kids.length < 1000000 := by
    have := HE1.out
    exact guarded_kids this
  obtain ⟨t2, r2l, hlt2⟩ := S1.out.ps.ends.ne
  subst hlt2
  cases hf1 : (t2.text == kElse)
  case false =>
    have H := Lib.hid (at_any B t2 r2l d kElse _ S1.out.ps)
    rw [hf1] at H
    go_wp2_with fail
    refine (H.out).mono ?_
    rintro e w2 ⟨rfl, hb2⟩
    have S2 := Lib.hid (S1.out.below hb2)
    have N2 := Lib.hid (N1.out.below hb2)
    clear S1 N1
    clear H hb2
    have S9 := S2.out
    have N9 := N2.out
    have hs1 := S9.lt
    have hs2 := N9.lt
    try simp only [World.size_setCell, World.size_alloc] at hs1 hs2
    have hr := S9.res
    have r0 := hr.c0; have r1' := hr.c1; have r2 := hr.c2; have r3 := hr.c3; have r4 := hr.c4; have r5 := hr.c5
    have g0 := hr.f 0 (by omega); have g1 := hr.f 1 (by omega); have g2 := hr.f 2 (by omega); have g3 := hr.f 3 (by omega); have g4 := hr.f 4 (by omega); have g5 := hr.f 5 (by omega)
    clear hr
    have hq := N9.nd
    have qn0 := hq.c0; have qn1 := hq.c1; have qn2 := hq.c2; have qn3 := hq.c3; have qn4 := hq.c4; have qn5 := hq.c5
    clear hq
    have HS9 := Lib.hid S9
    have HN9 := Lib.hid N9
    clear S9 N9 S2 N2
    skip
    go_wp2
    refine bodyPost_ret (v := nodeV t1 (.slice q1 n1 c1)) (by simp [results, Tryz.results119, go_sem, nodeV, Tree.kind, Tree.text, Tree.num, Tree.line, Tree.col, Tree.kids, kProgram, kGlobal, kFunc, kParam, kType, kNum, kBlock, kLocal, kIf, kElse, kWhile, kReturn, kAssert, kAssume, kAssign, kNondet, kResult, kCall, kName, kIndex, kBinary, kUnary, kCast, kTrue, kFalse, kVoid, *]) rfl ?_
    have hgood : (choiceP rec d) (t :: r) = .ok t1 (t2 :: r2l) := by simp only [Bool.false_eq_true, if_false, if_true, reduceIte, Bool.not_false, Bool.not_true, Bool.false_or, Bool.true_or, Bool.or_false, Bool.or_true, Bool.and_true, Bool.and_false, Bool.false_and, Bool.true_and, List.nil_append, List.cons_append, List.append_nil, choiceP, hf1, PR.bind, hdT_cons, HE1.out]
    rw [hgood]
    exact HS9.out.fin (t := t1) (HN9.out.bd.build fun g hg => hg.1) _ _ _ _ _ _
  case true =>
    have H := Lib.hid (at_any B t2 r2l d kElse _ S1.out.ps)
    rw [hf1] at H
    go_wp2_with fail
    refine (H.out).mono ?_
    rintro e w2 ⟨rfl, hb2⟩
    have S2 := Lib.hid (S1.out.below hb2)
    have N2 := Lib.hid (N1.out.below hb2)
    clear S1 N1
    clear H hb2
    have H := Lib.hid (pass_lit (S := w2.heap.size) [kElse] S2.out.ps (by simp [*, kProgram, kGlobal, kFunc, kParam, kType, kNum, kBlock, kLocal, kIf, kElse, kWhile, kReturn, kAssert, kAssume, kAssign, kNondet, kResult, kCall, kName, kIndex, kBinary, kUnary, kCast, kTrue, kFalse, kVoid]) (by simp) (by simp))
    simp only [List.map, List.length] at H
    go_wp2_with fail
    refine (H.out).mono ?_
    rintro e w3 (⟨l3, he3, rfl, hP3, hg3⟩ | ⟨ln, c, code, he3, rfl, hg3⟩)
    rotate_left
    · refine ⟨rfl, ?_⟩
      have hbad : (choiceP rec d) (t :: r) = .bad ln c code := by simp only [Bool.false_eq_true, if_false, if_true, reduceIte, Bool.not_false, Bool.not_true, Bool.false_or, Bool.true_or, Bool.or_false, Bool.or_true, Bool.and_true, Bool.and_false, Bool.false_and, Bool.true_and, List.nil_append, List.cons_append, List.append_nil, choiceP, hf1, PR.bind, hdT_cons, HE1.out, he3]
      rw [hbad]
      exact S2.out.pan ⟨rfl, hg3⟩
    have S3 := Lib.hid (S2.out.call hP3 hg3)
    have N3 := Lib.hid (N2.out.call hg3 (by omega))
    clear S2 N2
    have HE3 := Lib.hid he3
    clear H he3 hP3 hg3
    have hnoc : deeperP d (rec .block) l3 ≠ .out := fun e => HNO.out (by simp only [Bool.false_eq_true, if_false, if_true, reduceIte, Bool.not_false, Bool.not_true, Bool.false_or, Bool.true_or, Bool.or_false, Bool.or_true, Bool.and_true, Bool.and_false, Bool.false_and, Bool.true_and, List.nil_append, List.cons_append, List.append_nil, choiceP, hf1, PR.bind, hdT_cons, HE1.out, HE3.out, e])
    have HNOC := Lib.hid hnoc
    clear hnoc
    have S4d := Lib.hid S3.out.drew
    have N4d := Lib.hid N3.out.drew
    clear S3 N3
    go_wp2_with fail
    have hcl := N4d.out.nd.c5
    refine wp_region_T (S := fun w' => w'.cell? ⟨w1.heap.size, 5, none⟩ = some (.slice q1 n1 c1)) (tail := fun i => decide (7 ≤ i)) (by kernel_rfl) ?_
    change wpAnyT _ _ _ _ _ _ _ _ _ (World.drew _)
    refine wpAnyT_take (i := 0) (d := 11) (v := .pointer (some ⟨w1.heap.size, 5, none⟩)) rfl rfl (by kernel_rfl) (fun _ _ _ h => h) (by rfl) ?y0 hcl ?_
    case y0 => intro w' hw'; go_simp
    try simp only [Act.put, List.setIfInBounds_toArray, List.set_cons_zero, List.set_cons_succ]
    refine wpAnyT_take (i := 1) (d := 12) (v := .slice q1 n1 c1) rfl rfl (by kernel_rfl) (fun _ _ _ h => h) (by rfl) ?y1 hcl ?_
    case y1 => intro w' hw'; go_simp
    try simp only [Act.put, List.setIfInBounds_toArray, List.set_cons_zero, List.set_cons_succ]
    refine wpAnyT_take (i := 2) (d := 13) (v := .pointer (some ⟨B, 0, none⟩)) rfl rfl (by kernel_rfl) (fun _ _ _ h => h) (by rfl) ?y2 hcl ?_
    case y2 => intro w' hw'; go_simp
    try simp only [Act.put, List.setIfInBounds_toArray, List.set_cons_zero, List.set_cons_succ]
    refine wpAnyT_take (i := 3) (d := 14) (v := .pointer (some ⟨B, 0, none⟩)) rfl rfl (by kernel_rfl) (fun _ _ _ h => h) (by rfl) ?y3 hcl ?_
    case y3 => intro w' hw'; go_simp
    try simp only [Act.put, List.setIfInBounds_toArray, List.set_cons_zero, List.set_cons_succ]
    refine wpAnyT_take (i := 4) (d := 15) (v := .func (.func 96) #[.pointer (some ⟨B, 0, none⟩)] #[]) rfl rfl (by kernel_rfl) (fun _ _ _ h => h) (by rfl) ?y4 hcl ?_
    case y4 => intro w' hw'; go_simp
    try simp only [Act.put, List.setIfInBounds_toArray, List.set_cons_zero, List.set_cons_succ]
    refine wpAnyT_one (i := 5) rfl (by kernel_rfl) (by rfl) (fun K hK => ?_)
    go_simp
    have HC := HBL.out B l3 _ S4d.out.ps HNOC.out
    refine HC.mono ?_
    intro e w4a hq
    rcases hq.cases HNOC.out with ⟨t4, l4, q4, n4, c4, he4, rfl, hb6, hP6, hg6⟩ | ⟨ln, c, code, he4, rfl, hg6⟩
    rotate_left
    · refine ⟨rfl, ?_⟩
      have hbad : (choiceP rec d) (t :: r) = .bad ln c code := by simp only [Bool.false_eq_true, if_false, if_true, reduceIte, Bool.not_false, Bool.not_true, Bool.false_or, Bool.true_or, Bool.or_false, Bool.or_true, Bool.and_true, Bool.and_false, Bool.false_and, Bool.true_and, List.nil_append, List.cons_append, List.append_nil, choiceP, hf1, PR.bind, hdT_cons, HE1.out, HE3.out, he4]
      rw [hbad]
      exact S4d.out.pan ⟨rfl, hg6⟩
    have S6 := Lib.hid (S4d.out.call hP6 hg6)
    have N6 := Lib.hid (N4d.out.call hg6 (by omega))
    have HB6 := Lib.hid hb6
    have hbl := N4d.out.own
    have c6' := N6.out.nd.c5
    have f6' := N6.out.nd.f 5 (by omega)
    have hs6 := N6.out.lt
    have hsz5 := N4d.out.lt
    have hsz6 := hg6.size
    clear hP6 hg6 hb6 HC hq S4d N4d
    unfold nodeV
    refine hK.out _ _ (fun _ => c6') ?_
    clear hK K
    try simp only [Act.put, List.setIfInBounds_toArray, List.set_cons_zero, List.set_cons_succ]
    refine wpAnyT_one (i := 6) rfl (by kernel_rfl) (by rfl) (fun K hK => ?_)
    go_simp
    refine hK.out _ _ (fun _ => by go_simp) ?_
    clear hK K
    try simp only [Act.put, List.setIfInBounds_toArray, List.set_cons_zero, List.set_cons_succ]
    refine wpAnyT_one (i := 7) rfl (by kernel_rfl) (by rfl) (fun K hK => ?_)
    refine append_atX (dd := 18) (t := t4) (u := .slice q4 n4 c4) _ _ rfl rfl N6.out.bd HB6.out (fun g hg => ⟨by omega, by omega⟩) (fun g hg => (hbl g hg).2.2) hsz6 rfl rfl rfl (by simpa using hkl) (fun v7 w4 hb7 hg7 => ?_)
    refine hK.out _ _ (fun h => absurd h (by decide)) ?_
    clear hK K
    obtain ⟨qq4, nn4, cc4, rfl⟩ := hb7.shape
    have hff := app_finX S6.out N6.out hwN (Nat.lt_succ_self _) hb7 hg7
    have hs7 : w4.frozen? ⟨w1.heap.size, 5, none⟩ = false := ((N6.out.nd.grown (World.grownBy_alloc w4a _ none) (by simp)).grown hg7 (fun e => (hbl _ e.symm).2.1 rfl)).f 5 (by omega)
    have hd7 := ((N6.out.nd.grown (World.grownBy_alloc w4a _ none) (by simp)).grown hg7 (fun e => (hbl _ e.symm).2.1 rfl)).c5
    have HFF := Lib.hid hff
    clear hff hb7 hg7 S6 N6 HB6 hbl hcl c6' f6' hsz5 hsz6
    try simp only [Act.put, List.setIfInBounds_toArray, List.set_cons_zero, List.set_cons_succ]
    refine wpAnyT_one (i := 8) rfl (by kernel_rfl) (by rfl) (fun K hK => ?_)
    go_simp
    refine hK.out _ _ (fun h => absurd h (by decide)) ?_
    clear hK K
    try simp only [Act.put, List.setIfInBounds_toArray, List.set_cons_zero, List.set_cons_succ]
    refine wpAnyT_one (i := 9) rfl (by kernel_rfl) (by rfl) (fun K hK => ?_)
    go_simp
    refine hK.out _ _ (fun h => absurd h (by decide)) ?_
    clear hK K
    try simp only [Act.put, List.setIfInBounds_toArray, List.set_cons_zero, List.set_cons_succ]
    refine wpAnyT_done (by kernel_rfl) ?_ _
    clear hs7 hd7
    have S4 := Lib.hid HFF.out.1
    have N4 := Lib.hid HFF.out.2
    have HE4 := Lib.hid he4
    clear HFF he4 HNOC
    have hszn := N4.out.lt
    simp only [World.size_setCell] at hszn
    have S9 := S4.out
    have N9 := N4.out
    have hs1 := S9.lt
    have hs2 := N9.lt
    try simp only [World.size_setCell, World.size_alloc] at hs1 hs2
    have hr := S9.res
    have r0 := hr.c0; have r1' := hr.c1; have r2 := hr.c2; have r3 := hr.c3; have r4 := hr.c4; have r5 := hr.c5
    have g0 := hr.f 0 (by omega); have g1 := hr.f 1 (by omega); have g2 := hr.f 2 (by omega); have g3 := hr.f 3 (by omega); have g4 := hr.f 4 (by omega); have g5 := hr.f 5 (by omega)
    clear hr
    have hq := N9.nd
    have qn0 := hq.c0; have qn1 := hq.c1; have qn2 := hq.c2; have qn3 := hq.c3; have qn4 := hq.c4; have qn5 := hq.c5
    clear hq
    have HS9 := Lib.hid S9
    have HN9 := Lib.hid N9
    clear S9 N9 S4 N4
    skip
    go_wp2
    refine bodyPost_ret (v := nodeV (.mk t1.kind t1.text t1.num t1.line t1.col (t1.kids ++ [t4])) (.slice qq4 nn4 cc4)) (by simp [results, Tryz.results119, go_sem, nodeV, Tree.kind, Tree.text, Tree.num, Tree.line, Tree.col, Tree.kids, kProgram, kGlobal, kFunc, kParam, kType, kNum, kBlock, kLocal, kIf, kElse, kWhile, kReturn, kAssert, kAssume, kAssign, kNondet, kResult, kCall, kName, kIndex, kBinary, kUnary, kCast, kTrue, kFalse, kVoid, *]) rfl ?_
    have hgood : (choiceP rec d) (t :: r) = .ok (.mk t1.kind t1.text t1.num t1.line t1.col (t1.kids ++ [t4])) l4 := by simp only [Bool.false_eq_true, if_false, if_true, reduceIte, Bool.not_false, Bool.not_true, Bool.false_or, Bool.true_or, Bool.or_false, Bool.or_true, Bool.and_true, Bool.and_false, Bool.false_and, Bool.true_and, List.nil_append, List.cons_append, List.append_nil, choiceP, hf1, PR.bind, hdT_cons, HE1.out, HE3.out, HE4.out]
    rw [hgood]
    exact HS9.out.fin (t := (.mk t1.kind t1.text t1.num t1.line t1.col (t1.kids ++ [t4]))) (HN9.out.bd.build fun g hg => hg.1) _ _ _ _ _ _
end Go.Proofs.YtnalgnklgmoepaaGreatDoor
