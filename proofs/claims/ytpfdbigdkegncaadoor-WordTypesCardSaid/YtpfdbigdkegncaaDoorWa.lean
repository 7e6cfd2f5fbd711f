/- The law WordTypes: its walk. -/
import Derived.Test.YtpfdbigdkegncaaDoorW
namespace Go.Proofs.YtpfdbigdkegncaaDoor
open Go.RowKit

theorem rt_nine {W : Int} {S : Bool} (h : rt W S = true) : (W = 1 ∧ S = false) ∨ (W = 8 ∧ S = false) ∨ (W = 8 ∧ S = true) ∨ (W = 16 ∧ S = false) ∨ (W = 16 ∧ S = true) ∨ (W = 32 ∧ S = false) ∨ (W = 32 ∧ S = true) ∨ (W = 64 ∧ S = false) ∨ (W = 64 ∧ S = true) := by
  have := rt_cases h
  cases S <;> simp at this ⊢ <;> omega
theorem name_none {W : Int} {S : Bool} (h : rt W S = false) : nameOf W S = ⟨#[]⟩ := by
  have h1 : ¬ (1 = W ∧ false = S) := by rintro ⟨rfl, rfl⟩; cases h
  have h2 : ¬ 8 = W := by rintro rfl; cases S <;> cases h
  have h3 : ¬ 16 = W := by rintro rfl; cases S <;> cases h
  have h4 : ¬ 32 = W := by rintro rfl; cases S <;> cases h
  have h5 : ¬ 64 = W := by rintro rfl; cases S <;> cases h
  unfold nameOf tabL
  simp only [nameFrom, h1, h2, h3, h4, h5, false_and, if_false]
theorem rname_any (W : Int) (S : Bool) (w : World) :
    Calls Tryd.prog 16 #[.agg #[.int .i64 W, .bool S]] w fun e w' => e = .returned (.string (nameOf W S)) ∧ Below w.heap.size w w' := by
  by_cases hr : rt W S = true
  · exact rname_yes W S w hr (rt_nine hr)
  · have hr' : rt W S = false := by simpa using hr
    rw [name_none hr']
    exact rname_no W S w hr'
/-- The type of a right type's name is the type. -/
theorem of_name_yes {W : Int} {S : Bool} (h : rt W S = true) : ofName (nameOf W S) = (W, S, true) := by
  rcases rt_nine h with ⟨rfl, rfl⟩ | ⟨rfl, rfl⟩ | ⟨rfl, rfl⟩ | ⟨rfl, rfl⟩ | ⟨rfl, rfl⟩ | ⟨rfl, rfl⟩ | ⟨rfl, rfl⟩ | ⟨rfl, rfl⟩ | ⟨rfl, rfl⟩ <;> decide +kernel
theorem of_name_no {W : Int} {S : Bool} (h : rt W S = false) : ofName (nameOf W S) = (0, false, false) := by
  rw [name_none h]
  decide +kernel
/-- Of any text: it is a type's name, and that type is right; or it is no right type's name. -/
theorem of_from {s : ByteArray} : ∀ l : List (ByteArray × Int × Bool), (∀ x ∈ l, rt x.2.1 x.2.2 = true ∧ nameOf x.2.1 x.2.2 = x.1) →
    (∃ W S, ofFrom s l = (W, S, true) ∧ rt W S = true ∧ nameOf W S = s) ∨ (ofFrom s l = (0, false, false) ∧ ∀ x ∈ l, x.1 ≠ s)
  | [], _ => .inr ⟨rfl, fun _ h => by cases h⟩
  | (n, w, g) :: r, h => by
    rw [ofFrom]
    by_cases e : n = s
    · rw [if_pos e]
      have := h (n, w, g) (by simp)
      exact .inl ⟨w, g, rfl, this.1, this.2.trans e⟩
    · rw [if_neg e]
      rcases of_from r (fun x hx => h x (by simp [hx])) with h1 | ⟨h1, h2⟩
      · exact .inl h1
      · refine .inr ⟨h1, fun x hx => ?_⟩
        simp only [List.mem_cons] at hx
        rcases hx with rfl | hx
        · exact e
        · exact h2 x hx
theorem tab_right : ∀ x ∈ tabL, rt x.2.1 x.2.2 = true ∧ nameOf x.2.1 x.2.2 = x.1 := by
  intro x hx
  simp only [tabL, List.mem_cons, List.not_mem_nil, or_false] at hx
  rcases hx with rfl | rfl | rfl | rfl | rfl | rfl | rfl | rfl | rfl <;> decide +kernel
theorem name_in {W : Int} {S : Bool} (h : rt W S = true) : ∃ x ∈ tabL, x.1 = nameOf W S := by
  rcases rt_nine h with ⟨rfl, rfl⟩ | ⟨rfl, rfl⟩ | ⟨rfl, rfl⟩ | ⟨rfl, rfl⟩ | ⟨rfl, rfl⟩ | ⟨rfl, rfl⟩ | ⟨rfl, rfl⟩ | ⟨rfl, rfl⟩ | ⟨rfl, rfl⟩
  · exact ⟨_, List.mem_of_getElem? (i := 0) rfl, by decide +kernel⟩
  · exact ⟨_, List.mem_of_getElem? (i := 1) rfl, by decide +kernel⟩
  · exact ⟨_, List.mem_of_getElem? (i := 5) rfl, by decide +kernel⟩
  · exact ⟨_, List.mem_of_getElem? (i := 2) rfl, by decide +kernel⟩
  · exact ⟨_, List.mem_of_getElem? (i := 6) rfl, by decide +kernel⟩
  · exact ⟨_, List.mem_of_getElem? (i := 3) rfl, by decide +kernel⟩
  · exact ⟨_, List.mem_of_getElem? (i := 7) rfl, by decide +kernel⟩
  · exact ⟨_, List.mem_of_getElem? (i := 4) rfl, by decide +kernel⟩
  · exact ⟨_, List.mem_of_getElem? (i := 8) rfl, by decide +kernel⟩
theorem of_cases (s : ByteArray) : (∃ W S, ofName s = (W, S, true) ∧ rt W S = true ∧ nameOf W S = s) ∨ (ofName s = (0, false, false) ∧ ∀ W S, rt W S = true → nameOf W S ≠ s) := by
  rcases of_from (s := s) tabL tab_right with h | ⟨h1, h2⟩
  · exact .inl h
  · refine .inr ⟨h1, fun W S hr e => ?_⟩
    obtain ⟨x, hx, hn⟩ := name_in hr
    exact h2 x hx (hn.trans e)
theorem of_c {s : ByteArray} {W : Int} {S k : Bool} (h : ofName s = (W, S, k)) (w : World) (ht : Tab w) :
    Calls Tryd.prog 14 #[.string s] w fun e w' => e = .returned (.tuple #[.agg #[.int .i64 W, .bool S], .bool k]) ∧ Below w.heap.size w w' := by
  have := of_any s w ht
  rw [h] at this
  exact this
theorem rname_c {W : Int} {S : Bool} {s : ByteArray} (h : nameOf W S = s) (w : World) :
    Calls Tryd.prog 16 #[.agg #[.int .i64 W, .bool S]] w fun e w' => e = .returned (.string s) ∧ Below w.heap.size w w' := by
  subst h
  exact rname_any W S w
theorem rright_c {W : Int} {S k : Bool} (h : rt W S = k) (w : World) :
    Calls Tryd.prog 15 #[.agg #[.int .i64 W, .bool S]] w fun e w' => e = .returned (.bool k) ∧ Below w.heap.size w w' := by
  subst h
  exact rright_any W S w
theorem right_c {W : Int} {S k : Bool} (h : rt W S = k) (w : World) (ht : Tab w) :
    Calls Tryd.prog 17 #[.agg #[.int .i64 W, .bool S]] w fun e w' => e = .returned (.bool k) ∧ Below w.heap.size w w' := by
  subst h
  exact right_any W S w ht

set_option maxHeartbeats 1000000 in
theorem types_long (W : Int) (S : Bool) (s : ByteArray) (w : World) (ht : Tab w) (hs : 100 < s.size) (hm : s.size ≤ 9223372036854775807) :
    Calls Tryd.prog 3 #[.agg #[.int .i64 W, .bool S], .string s] w fun e w' => e = .returned (.bool true) ∧ Below w.heap.size w w' := by
  have H0 := On.start ht W S
  go_enter Tryd.func3, Tryd.ntmps3
  go_wp2_with fail
  refine (awake_any _ H0.tab).mono ?_; rintro e w1 ⟨rfl, hq⟩
  have ho := (H0.step hq).old
  clear H0 hq
  go_wp2
  go_ret
  exact ⟨rfl, ho⟩
end Go.Proofs.YtpfdbigdkegncaaDoor
