/- The law WordTypes: its ways put together. -/
import Derived.Test.YtpfdbigdkegncaaDoorWt1
import Derived.Test.YtpfdbigdkegncaaDoorWt2
import Derived.Test.YtpfdbigdkegncaaDoorWt3
import Derived.Test.YtpfdbigdkegncaaDoorWt4
import Derived.Test.YtpfdbigdkegncaaDoorWt5
import Derived.Test.YtpfdbigdkegncaaDoorWt6
namespace Go.Proofs.YtpfdbigdkegncaaDoor
open Go.RowKit

theorem name_some {W : Int} {S : Bool} (h : rt W S = true) : (nameOf W S).toList.isEmpty = false := by
  rcases rt_nine h with ⟨rfl, rfl⟩ | ⟨rfl, rfl⟩ | ⟨rfl, rfl⟩ | ⟨rfl, rfl⟩ | ⟨rfl, rfl⟩ | ⟨rfl, rfl⟩ | ⟨rfl, rfl⟩ | ⟨rfl, rfl⟩ | ⟨rfl, rfl⟩ <;> decide +kernel
theorem some_bytes {s : ByteArray} (h : s ≠ ⟨#[]⟩) : s.toList.isEmpty = false := by
  have := bytes_list (Ne.symm h)
  have e : (⟨#[]⟩ : ByteArray).toList = [] := by decide +kernel
  rw [e] at this
  cases hs : s.toList with
  | nil => rw [hs] at this; cases this
  | cons x l => rfl

theorem types_law (W : Int) (S : Bool) (s : ByteArray) (w : World) (ht : Tab w) (hs : s.size ≤ maxLen) :
    Calls Tryd.prog 3 #[.agg #[.int .i64 W, .bool S], .string s] w fun e w' => e = .returned (.bool true) ∧ Below w.heap.size w w' := by
  by_cases hl : 100 < s.size
  · exact types_long W S s w ht hl (by unfold maxLen at hs; omega)
  have hl' : s.size ≤ 100 := by omega
  have h0 : ofName ⟨#[]⟩ = (0, false, false) := by decide +kernel
  rcases of_cases s with ⟨uW, uS, h1, hu, hun⟩ | ⟨h1, hno⟩
  · cases hr : rt W S with
    | true => exact types_tt W S s w ht hl' uW uS h1 hu hun _ rfl hr (of_name_yes hr) (name_some hr)
    | false => exact types_tf W S s w ht hl' uW uS h1 hu hun (name_none hr) hr h0
  · by_cases he : s = ⟨#[]⟩
    · subst he
      cases hr : rt W S with
      | true => exact types_fte W S w ht h1 _ rfl hr (of_name_yes hr) (name_some hr)
      | false => exact types_ffe W S w ht h1 (name_none hr) hr h0
    · cases hr : rt W S with
      | true => exact types_fto W S s w ht hl' h1 _ rfl hr (of_name_yes hr) (name_some hr) (some_bytes he) (bytes_list (hno W S hr))
      | false => exact types_ffo W S s w ht hl' h1 (name_none hr) hr h0 (some_bytes he)
end Go.Proofs.YtpfdbigdkegncaaDoor
