/- The contract of the reader's token. -/
import Derived.Test.YtilfganjpgkjdaaDoorLl
import Derived.RegionTactic
import Derived.ChangeAlike
import Derived.Outline
import Derived.Deep.Light
namespace Go.Proofs.YtilfganjpgkjdaaDoor
open Go Go.RowKit

/-- A token as a value. -/
def tokV (k : Int) (t : ByteArray) (m ln c : Int) : Value := .agg #[.int .i64 k, .string t, .int .u64 m, .int .i64 ln, .int .i64 c]

theorem grown_below {w w' : World} (h : w.grownBy w' none) : Below w.heap.size w w' := ⟨h.os, h.tape, h.output, h.size, fun k hk => h.block k hk (by simp)⟩
theorem signs_kept {w w' : World} (h : Signs w) (hg : w.grownBy w' none) : Signs w' := by
  obtain ⟨b, off, cap, h1⟩ := h
  exact ⟨b, off, cap, h1.below (grown_below hg)⟩

set_option maxHeartbeats 1000000 in
theorem token_end (B : Nat) (ln c : Int) (w : World) (hR : RdAt B ⟨#[]⟩ ln c w) :
    Calls Tryd.prog 22 #[.pointer (some ⟨B, 0, none⟩)] w fun e w' => e = .returned (.tuple #[tokV 3 ⟨#[]⟩ 0 ln c, .int .i64 0]) ∧ RdAt B ⟨#[]⟩ ln c w' ∧ w.grownBy w' (some B) := by
  have c0 := hR.c0
  have c1 := hR.c1
  have c2 := hR.c2
  have hB := hR.lt
  go_enter Tryd.func22, Tryd.ntmps22
  go_wp2
  go_region
  go_wp2
  exact bodyPost_ret (v := .tuple #[tokV 3 ⟨#[]⟩ 0 ln c, .int .i64 0]) (by simp [results, Tryd.results22, go_sem, tokV]) rfl
    ⟨rfl, hR.kept (row := none) (grown_drew (grown_alloc (grown_alloc (grown_refl _ _) _) _)) (by simp), grown_drew (grown_alloc (grown_alloc (grown_refl _ _) _) _)⟩

set_option maxHeartbeats 1000000 in
theorem token_byte (B : Nat) (r : ByteArray) (ln c : Int) (w : World) (hR : RdAt B r ln c w) (ht : Signs w) (h0 : 0 < r.size) (hs : r.size ≤ 65536) (hn : firstN r.data.toList = 0) :
    Calls Tryd.prog 22 #[.pointer (some ⟨B, 0, none⟩)] w fun e w' => e = .returned (.tuple #[tokV 0 ⟨#[]⟩ 0 ln c, .int .i64 20]) ∧ RdAt B r ln c w' ∧ w.grownBy w' (some B) := by
  have c0 := hR.c0
  have c1 := hR.c1
  have c2 := hR.c2
  have hB := hR.lt
  have hE := not_empty h0
  have hm : r.size ≤ maxLen := by unfold maxLen; omega
  have hF := Lib.hid (fun w ht => first_any r w hm h0 ht)
  have HN := Lib.hid hn
  have HT := Lib.hid ht
  have HR := Lib.hid hR
  clear hn ht hR hm
  go_enter Tryd.func22, Tryd.ntmps22
  go_wp2
  go_region
  go_wp2_with (go_at_call 30; refine (hF.out _ (signs_kept HT.out (grown_drew (grown_alloc (grown_alloc (grown_refl _ none) _) _)))).mono ?_; rintro e w' ⟨rfl, rfl⟩; rw [HN.out])
  exact bodyPost_ret (v := .tuple #[tokV 0 ⟨#[]⟩ 0 ln c, .int .i64 20]) (by simp [results, Tryd.results22, go_sem, tokV]) rfl
    ⟨rfl, HR.out.kept (row := none) (grown_drew (grown_alloc (grown_alloc (grown_refl _ _) _) _)) (by simp), grown_drew (grown_alloc (grown_alloc (grown_refl _ _) _) _)⟩
end Go.Proofs.YtilfganjpgkjdaaDoor
