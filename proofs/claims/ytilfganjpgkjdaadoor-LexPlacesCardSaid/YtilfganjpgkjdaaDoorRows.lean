/-
  NARROWER THAN 'FOR EVERY INPUT', by the rows' own cells (each row's printed sentence says how): LexNumbers: laid · LexBack: laid · LexBetween: laid · LexPlaces: laid.
  DERIVED. THE GIVEN ROWS OF THIS SEAT. 4 by the template 'for every input the law returns true; each argument reads behind the call as it read before'; 0 by the template 'total and deterministic' (their statements: YtilfganjpgkjdaaDoorTotals.lean).
  GIVEN WITH THE SEED: the statements are not yours to turn. If you find one false, say at which input.
  Laid BY PROGRAM, IN A SANDBOX (cutbox-rows.mjs): the forced cells as the released guide's own fill.sh prints them over the translation f05a96a602278f58… (all of the seat's roots in one cut). By AI agents, Wed Nov 11 2026. No macro, syntax, notation, axiom, sorry.
-/
import Derived.Test.YtilfganjpgkjdaaDoorChecked
import GoSem.Claim
import GoSem.ClaimJoined
import GoSem.ClaimMapViews
import Derived.JoinedTies
import Derived.KernelRfl
namespace Go.Proofs.YtilfganjpgkjdaaDoor
/- THE CELL 'sum', in the pinned program and in every row, IS THE sha256 OF THE DUMP (.gsa) THAT YtilfganjpgkjdaaDoorProg.lean LOADS. Nothing in Lean hashes anything: it is a label: what it is worth is what the hold of that sum in a sandbox is worth. -/
noncomputable def Tryd.pinned : Pinned := { name := "ytilfganjpgkjdaadoor", sum := "f05a96a602278f58465239e146fe2421eca010e925f8a8294cf62f0460c6b92c", checked := Tryd.checked }
namespace Rows
def none {H : Type} : Left H := { results := [], args := [] }

/- WHAT THE LISTED PACKAGE-LEVEL VARIABLES READ AS WHEN THE CALL BEGINS. Each datum BY PROGRAM (the guide's laid-datum.mjs) off the statement by which the dump's own 'gosem.cut.vars' lays the variable. In a bare row this is a premise. The card (YtilfganjpgkjdaaDoorCards.lean) ties it to the program's text. -/
def laid_skua_lex_signs {H : Type} : DataW H := .slice [.lit (.string [124, 124]), .lit (.string [38, 38]), .lit (.string [61, 61]), .lit (.string [33, 61]), .lit (.string [60, 61]), .lit (.string [62, 61]), .lit (.string [60, 60]), .lit (.string [62, 62]), .lit (.string [43]), .lit (.string [45]), .lit (.string [42]), .lit (.string [47]), .lit (.string [37]), .lit (.string [38]), .lit (.string [124]), .lit (.string [94]), .lit (.string [126]), .lit (.string [33]), .lit (.string [60]), .lit (.string [62]), .lit (.string [61]), .lit (.string [40]), .lit (.string [41]), .lit (.string [123]), .lit (.string [125]), .lit (.string [91]), .lit (.string [93]), .lit (.string [44]), .lit (.string [59])] []
def laid_skua_lex_keywords {H : Type} : DataW H := .slice [.lit (.string [98, 111, 111, 108]), .lit (.string [117, 56]), .lit (.string [117, 49, 54]), .lit (.string [117, 51, 50]), .lit (.string [117, 54, 52]), .lit (.string [105, 56]), .lit (.string [105, 49, 54]), .lit (.string [105, 51, 50]), .lit (.string [105, 54, 52]), .lit (.string [118, 111, 105, 100]), .lit (.string [105, 102]), .lit (.string [101, 108, 115, 101]), .lit (.string [119, 104, 105, 108, 101]), .lit (.string [114, 101, 116, 117, 114, 110]), .lit (.string [97, 115, 115, 101, 114, 116]), .lit (.string [97, 115, 115, 117, 109, 101]), .lit (.string [110, 111, 110, 100, 101, 116]), .lit (.string [116, 114, 117, 101]), .lit (.string [102, 97, 108, 115, 101])] []

/-- 'skualaw02.LexNumbers': WHATEVER THE INPUT: true; the input reads as it did. -/
def lexNumbersSpec : ChangeSpec := { name := "lexNumbers", fn := fun _ => fun
  | [d] => { results := [.lit (.bool true)], args := [d] }
  | _ => none }
def lexNumbersRow : OpenClaim := { program := "ytilfganjpgkjdaadoor", sum := "f05a96a602278f58465239e146fe2421eca010e925f8a8294cf62f0460c6b92c", func := "skua/skualaw02.LexNumbers", spec := "lexNumbers", unfollowed := true, recurses := true, named := ["skua/lex.signs", "skua/lex.keywords"], apart := false, laid := [("skua/lex.signs", laid_skua_lex_signs), ("skua/lex.keywords", laid_skua_lex_keywords)] }
def LexNumbersSaid : Prop := lexNumbersRow.holds Tryd.pinned (OpenSpec.ofChange lexNumbersSpec)

/-- ITS FALSE NEIGHBOUR: 'it returns false'. Refute it at one input. -/
def lexNumbersWrong : ChangeSpec := { name := "lexNumbers", fn := fun _ => fun
  | [d] => { results := [.lit (.bool false)], args := [d] }
  | _ => none }
def LexNumbersWrongFalsely : Prop := lexNumbersRow.holds Tryd.pinned (OpenSpec.ofChange lexNumbersWrong)

/-- 'skualaw02.LexBack': WHATEVER THE INPUT: true; the input reads as it did. -/
def lexBackSpec : ChangeSpec := { name := "lexBack", fn := fun _ => fun
  | [d] => { results := [.lit (.bool true)], args := [d] }
  | _ => none }
def lexBackRow : OpenClaim := { program := "ytilfganjpgkjdaadoor", sum := "f05a96a602278f58465239e146fe2421eca010e925f8a8294cf62f0460c6b92c", func := "skua/skualaw02.LexBack", spec := "lexBack", inPlace := ["internal/abi.NoEscape"], unfollowed := true, recurses := true, named := ["skua/lex.signs", "skua/lex.keywords"], apart := false, laid := [("skua/lex.signs", laid_skua_lex_signs), ("skua/lex.keywords", laid_skua_lex_keywords)] }
def LexBackSaid : Prop := lexBackRow.holds Tryd.pinned (OpenSpec.ofChange lexBackSpec)

/-- ITS FALSE NEIGHBOUR: 'it returns false'. Refute it at one input. -/
def lexBackWrong : ChangeSpec := { name := "lexBack", fn := fun _ => fun
  | [d] => { results := [.lit (.bool false)], args := [d] }
  | _ => none }
def LexBackWrongFalsely : Prop := lexBackRow.holds Tryd.pinned (OpenSpec.ofChange lexBackWrong)

/-- 'skualaw02.LexBetween': WHATEVER THE INPUT: true; the input reads as it did. -/
def lexBetweenSpec : ChangeSpec := { name := "lexBetween", fn := fun _ => fun
  | [d1, d2, d3] => { results := [.lit (.bool true)], args := [d1, d2, d3] }
  | _ => none }
def lexBetweenRow : OpenClaim := { program := "ytilfganjpgkjdaadoor", sum := "f05a96a602278f58465239e146fe2421eca010e925f8a8294cf62f0460c6b92c", func := "skua/skualaw02.LexBetween", spec := "lexBetween", unfollowed := true, recurses := true, named := ["skua/lex.signs", "skua/lex.keywords"], apart := false, laid := [("skua/lex.signs", laid_skua_lex_signs), ("skua/lex.keywords", laid_skua_lex_keywords)] }
def LexBetweenSaid : Prop := lexBetweenRow.holds Tryd.pinned (OpenSpec.ofChange lexBetweenSpec)

/-- ITS FALSE NEIGHBOUR: 'it returns false'. Refute it at one input. -/
def lexBetweenWrong : ChangeSpec := { name := "lexBetween", fn := fun _ => fun
  | [d1, d2, d3] => { results := [.lit (.bool false)], args := [d1, d2, d3] }
  | _ => none }
def LexBetweenWrongFalsely : Prop := lexBetweenRow.holds Tryd.pinned (OpenSpec.ofChange lexBetweenWrong)

/-- 'skualaw02.LexPlaces': WHATEVER THE INPUT: true; the input reads as it did. -/
def lexPlacesSpec : ChangeSpec := { name := "lexPlaces", fn := fun _ => fun
  | [d] => { results := [.lit (.bool true)], args := [d] }
  | _ => none }
def lexPlacesRow : OpenClaim := { program := "ytilfganjpgkjdaadoor", sum := "f05a96a602278f58465239e146fe2421eca010e925f8a8294cf62f0460c6b92c", func := "skua/skualaw02.LexPlaces", spec := "lexPlaces", unfollowed := true, recurses := true, named := ["skua/lex.signs", "skua/lex.keywords"], apart := false, laid := [("skua/lex.signs", laid_skua_lex_signs), ("skua/lex.keywords", laid_skua_lex_keywords)] }
def LexPlacesSaid : Prop := lexPlacesRow.holds Tryd.pinned (OpenSpec.ofChange lexPlacesSpec)

/-- ITS FALSE NEIGHBOUR: 'it returns false'. Refute it at one input. -/
def lexPlacesWrong : ChangeSpec := { name := "lexPlaces", fn := fun _ => fun
  | [d] => { results := [.lit (.bool false)], args := [d] }
  | _ => none }
def LexPlacesWrongFalsely : Prop := lexPlacesRow.holds Tryd.pinned (OpenSpec.ofChange lexPlacesWrong)

/- THE SECOND FORM. 'bulk': how many values and letters a reading holds, each counted each time it is reached (what is shared counts as often as it is met; a slice's spare places count too). A statement '..UptoSaid' is the law's where the arguments, and the package variables that the reading takes, are together of bulk at most 1048576: NARROWER than '..Said'. Prove '..Said' where nothing that the law and all that it calls make is longer than what came in: it says more and counts as full. Else prove '..UptoSaid'. A law counts once. -/
mutual
def uptoBulk {H : Type} : DataW H → Nat
  | .lit (.string bytes) => bytes.length + 1
  | .lit _ => 1
  | .nil => 1
  | .ptr d => uptoBulk d + 1
  | .slice elems spare => uptoBulkAll elems + uptoBulkAll spare + 1
  | .agg parts => uptoBulkAll parts + 1
  | .iface _ d => uptoBulk d + 1
  | .map entries => uptoBulkEntries entries + 1
  | .held _ => 1
def uptoBulkAll {H : Type} : List (DataW H) → Nat
  | [] => 0
  | d :: r => uptoBulk d + uptoBulkAll r
def uptoBulkEntries {H : Type} : List (Lit × DataW H) → Nat
  | [] => 0
  | x :: r => uptoBulkEntry x + uptoBulkEntries r
def uptoBulkEntry {H : Type} : Lit × DataW H → Nat
  | (.string bytes, d) => bytes.length + uptoBulk d + 1
  | (_, d) => uptoBulk d + 1
 end
def uptoSmall : (H : Type) → List (DataW H) → Bool := fun _ ds => decide (uptoBulkAll ds ≤ 1048576)
def OpenSpec.upto (s : _root_.Go.ChangeSpec) : _root_.Go.OpenSpec := { _root_.Go.OpenSpec.ofChange s with cond := some uptoSmall }

/-- 'skualaw02.LexNumbers', WHERE WHAT IT READS IS OF BULK AT MOST 1048576: true; the input reads as it did. -/
def lexNumbersUptoRow : OpenClaim := { program := "ytilfganjpgkjdaadoor", sum := "f05a96a602278f58465239e146fe2421eca010e925f8a8294cf62f0460c6b92c", func := "skua/skualaw02.LexNumbers", spec := "lexNumbers", unfollowed := true, recurses := true, named := ["skua/lex.signs", "skua/lex.keywords"], apart := false, laid := [("skua/lex.signs", laid_skua_lex_signs), ("skua/lex.keywords", laid_skua_lex_keywords)], narrowed := true }
def LexNumbersUptoSaid : Prop := lexNumbersUptoRow.holds Tryd.pinned (OpenSpec.upto lexNumbersSpec)

/-- 'skualaw02.LexBack', WHERE WHAT IT READS IS OF BULK AT MOST 1048576: true; the input reads as it did. -/
def lexBackUptoRow : OpenClaim := { program := "ytilfganjpgkjdaadoor", sum := "f05a96a602278f58465239e146fe2421eca010e925f8a8294cf62f0460c6b92c", func := "skua/skualaw02.LexBack", spec := "lexBack", inPlace := ["internal/abi.NoEscape"], unfollowed := true, recurses := true, named := ["skua/lex.signs", "skua/lex.keywords"], apart := false, laid := [("skua/lex.signs", laid_skua_lex_signs), ("skua/lex.keywords", laid_skua_lex_keywords)], narrowed := true }
def LexBackUptoSaid : Prop := lexBackUptoRow.holds Tryd.pinned (OpenSpec.upto lexBackSpec)

/-- 'skualaw02.LexBetween', WHERE WHAT IT READS IS OF BULK AT MOST 1048576: true; the input reads as it did. -/
def lexBetweenUptoRow : OpenClaim := { program := "ytilfganjpgkjdaadoor", sum := "f05a96a602278f58465239e146fe2421eca010e925f8a8294cf62f0460c6b92c", func := "skua/skualaw02.LexBetween", spec := "lexBetween", unfollowed := true, recurses := true, named := ["skua/lex.signs", "skua/lex.keywords"], apart := false, laid := [("skua/lex.signs", laid_skua_lex_signs), ("skua/lex.keywords", laid_skua_lex_keywords)], narrowed := true }
def LexBetweenUptoSaid : Prop := lexBetweenUptoRow.holds Tryd.pinned (OpenSpec.upto lexBetweenSpec)

/-- 'skualaw02.LexPlaces', WHERE WHAT IT READS IS OF BULK AT MOST 1048576: true; the input reads as it did. -/
def lexPlacesUptoRow : OpenClaim := { program := "ytilfganjpgkjdaadoor", sum := "f05a96a602278f58465239e146fe2421eca010e925f8a8294cf62f0460c6b92c", func := "skua/skualaw02.LexPlaces", spec := "lexPlaces", unfollowed := true, recurses := true, named := ["skua/lex.signs", "skua/lex.keywords"], apart := false, laid := [("skua/lex.signs", laid_skua_lex_signs), ("skua/lex.keywords", laid_skua_lex_keywords)], narrowed := true }
def LexPlacesUptoSaid : Prop := lexPlacesUptoRow.holds Tryd.pinned (OpenSpec.upto lexPlacesSpec)

end Rows
end Go.Proofs.YtilfganjpgkjdaaDoor
