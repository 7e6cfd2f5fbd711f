/- A cell of whoever calls. -/
import Derived.Test.YtailpphafoamfaaMDd
set_option linter.all false
namespace Go.Proofs.Ytailpphafoamfaa
open Go Go.RowKit Go.Maps


/-- A cell of whoever calls. -/
def Cl (w : World) (o : Nat → Nat) (b : Nat) (inn : Bool) : Prop := w.cell? ⟨b, 0, none⟩ = some (.bool inn) ∧ o b = 0
theorem Cl.keep {w w' : World} {o o' : Nat → Nat} {b : Nat} {inn : Bool} (h : Cl w o b inn) (k : Keep T0 w o w' o') : Cl w' o' b inn := ⟨k.cell h.1 (by rw [h.2]; rfl), (k.own _ (lt_cell h.1)).trans h.2⟩

end Go.Proofs.Ytailpphafoamfaa
