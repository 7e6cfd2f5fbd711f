/-
  NARROWER THAN 'FOR EVERY INPUT', by the rows' own cells (each row's printed sentence says how): CheckBlanks: laid · CheckSound: laid · CheckAgain: laid · CheckUnused: laid.
  DERIVED. THE GIVEN ROWS OF THIS SEAT. 4 by the template 'for every input the law returns true; each argument reads behind the call as it read before'; 0 by the template 'total and deterministic' (their statements: YtiajhekdhhhghaaGreatDoorTotals.lean).
  GIVEN WITH THE SEED: the statements are not yours to turn. If you find one false, say at which input.
  Laid BY PROGRAM, IN A SANDBOX (cutbox-rows.mjs): the forced cells as the released guide's own fill.sh prints them over the translation 000e93893a15d12c… (all of the seat's roots in one cut). By AI agents, Wed Nov 11 2026. No macro, syntax, notation, axiom, sorry.
-/
import Derived.Test.YtiajhekdhhhghaaGreatDoorChecked
import GoSem.Claim
import GoSem.ClaimJoined
import GoSem.ClaimMapViews
import Derived.JoinedTies
import Derived.KernelRfl
namespace Go.Proofs.YtiajhekdhhhghaaGreatDoor
/- THE CELL 'sum', in the pinned program and in every row, IS THE sha256 OF THE DUMP (.gsa) THAT YtiajhekdhhhghaaGreatDoorProg.lean LOADS. Nothing in Lean hashes anything: it is a label: what it is worth is what the hold of that sum in a sandbox is worth. -/
noncomputable def Tryz.pinned : Pinned := { name := "ytiajhekdhhhghaagreatdoor", sum := "000e93893a15d12cfd6e5d806d09086ce2749eb21368c3b97c5dedcca86276e0", checked := Tryz.checked }
namespace Rows
def none {H : Type} : Left H := { results := [], args := [] }

/- WHAT THE LISTED PACKAGE-LEVEL VARIABLES READ AS WHEN THE CALL BEGINS. Each datum BY PROGRAM (the guide's laid-datum.mjs) off the statement by which the dump's own 'gosem.cut.vars' lays the variable. In a bare row this is a premise. The card (YtiajhekdhhhghaaGreatDoorCards.lean) ties it to the program's text. -/
def laid_math_bits_deBruijn32tab {H : Type} : DataW H := .agg [.lit (.int .u8 0), .lit (.int .u8 1), .lit (.int .u8 28), .lit (.int .u8 2), .lit (.int .u8 29), .lit (.int .u8 14), .lit (.int .u8 24), .lit (.int .u8 3), .lit (.int .u8 30), .lit (.int .u8 22), .lit (.int .u8 20), .lit (.int .u8 15), .lit (.int .u8 25), .lit (.int .u8 17), .lit (.int .u8 4), .lit (.int .u8 8), .lit (.int .u8 31), .lit (.int .u8 27), .lit (.int .u8 13), .lit (.int .u8 23), .lit (.int .u8 21), .lit (.int .u8 19), .lit (.int .u8 16), .lit (.int .u8 7), .lit (.int .u8 26), .lit (.int .u8 12), .lit (.int .u8 18), .lit (.int .u8 6), .lit (.int .u8 11), .lit (.int .u8 5), .lit (.int .u8 10), .lit (.int .u8 9)]
def laid_math_bits_deBruijn64tab {H : Type} : DataW H := .agg [.lit (.int .u8 0), .lit (.int .u8 1), .lit (.int .u8 56), .lit (.int .u8 2), .lit (.int .u8 57), .lit (.int .u8 49), .lit (.int .u8 28), .lit (.int .u8 3), .lit (.int .u8 61), .lit (.int .u8 58), .lit (.int .u8 42), .lit (.int .u8 50), .lit (.int .u8 38), .lit (.int .u8 29), .lit (.int .u8 17), .lit (.int .u8 4), .lit (.int .u8 62), .lit (.int .u8 47), .lit (.int .u8 59), .lit (.int .u8 36), .lit (.int .u8 45), .lit (.int .u8 43), .lit (.int .u8 51), .lit (.int .u8 22), .lit (.int .u8 53), .lit (.int .u8 39), .lit (.int .u8 33), .lit (.int .u8 30), .lit (.int .u8 24), .lit (.int .u8 18), .lit (.int .u8 12), .lit (.int .u8 5), .lit (.int .u8 63), .lit (.int .u8 55), .lit (.int .u8 48), .lit (.int .u8 27), .lit (.int .u8 60), .lit (.int .u8 41), .lit (.int .u8 37), .lit (.int .u8 16), .lit (.int .u8 46), .lit (.int .u8 35), .lit (.int .u8 44), .lit (.int .u8 21), .lit (.int .u8 52), .lit (.int .u8 32), .lit (.int .u8 23), .lit (.int .u8 11), .lit (.int .u8 54), .lit (.int .u8 26), .lit (.int .u8 40), .lit (.int .u8 15), .lit (.int .u8 34), .lit (.int .u8 20), .lit (.int .u8 31), .lit (.int .u8 10), .lit (.int .u8 25), .lit (.int .u8 14), .lit (.int .u8 19), .lit (.int .u8 9), .lit (.int .u8 13), .lit (.int .u8 8), .lit (.int .u8 7), .lit (.int .u8 6)]
def laid_internal_strconv_uint64pow10 {H : Type} : DataW H := .agg [.lit (.int .u64 1), .lit (.int .u64 10), .lit (.int .u64 100), .lit (.int .u64 1000), .lit (.int .u64 10000), .lit (.int .u64 100000), .lit (.int .u64 1000000), .lit (.int .u64 10000000), .lit (.int .u64 100000000), .lit (.int .u64 1000000000), .lit (.int .u64 10000000000), .lit (.int .u64 100000000000), .lit (.int .u64 1000000000000), .lit (.int .u64 10000000000000), .lit (.int .u64 100000000000000), .lit (.int .u64 1000000000000000), .lit (.int .u64 10000000000000000), .lit (.int .u64 100000000000000000), .lit (.int .u64 1000000000000000000), .lit (.int .u64 10000000000000000000)]
def laid_skua_word_types {H : Type} : DataW H := .slice [.agg [.lit (.string [98, 111, 111, 108]), .agg [.lit (.int .i64 1), .lit (.bool false)]], .agg [.lit (.string [117, 56]), .agg [.lit (.int .i64 8), .lit (.bool false)]], .agg [.lit (.string [117, 49, 54]), .agg [.lit (.int .i64 16), .lit (.bool false)]], .agg [.lit (.string [117, 51, 50]), .agg [.lit (.int .i64 32), .lit (.bool false)]], .agg [.lit (.string [117, 54, 52]), .agg [.lit (.int .i64 64), .lit (.bool false)]], .agg [.lit (.string [105, 56]), .agg [.lit (.int .i64 8), .lit (.bool true)]], .agg [.lit (.string [105, 49, 54]), .agg [.lit (.int .i64 16), .lit (.bool true)]], .agg [.lit (.string [105, 51, 50]), .agg [.lit (.int .i64 32), .lit (.bool true)]], .agg [.lit (.string [105, 54, 52]), .agg [.lit (.int .i64 64), .lit (.bool true)]]] []
def laid_skua_lex_signs {H : Type} : DataW H := .slice [.lit (.string [124, 124]), .lit (.string [38, 38]), .lit (.string [61, 61]), .lit (.string [33, 61]), .lit (.string [60, 61]), .lit (.string [62, 61]), .lit (.string [60, 60]), .lit (.string [62, 62]), .lit (.string [43]), .lit (.string [45]), .lit (.string [42]), .lit (.string [47]), .lit (.string [37]), .lit (.string [38]), .lit (.string [124]), .lit (.string [94]), .lit (.string [126]), .lit (.string [33]), .lit (.string [60]), .lit (.string [62]), .lit (.string [61]), .lit (.string [40]), .lit (.string [41]), .lit (.string [123]), .lit (.string [125]), .lit (.string [91]), .lit (.string [93]), .lit (.string [44]), .lit (.string [59])] []
def laid_skua_lex_keywords {H : Type} : DataW H := .slice [.lit (.string [98, 111, 111, 108]), .lit (.string [117, 56]), .lit (.string [117, 49, 54]), .lit (.string [117, 51, 50]), .lit (.string [117, 54, 52]), .lit (.string [105, 56]), .lit (.string [105, 49, 54]), .lit (.string [105, 51, 50]), .lit (.string [105, 54, 52]), .lit (.string [118, 111, 105, 100]), .lit (.string [105, 102]), .lit (.string [101, 108, 115, 101]), .lit (.string [119, 104, 105, 108, 101]), .lit (.string [114, 101, 116, 117, 114, 110]), .lit (.string [97, 115, 115, 101, 114, 116]), .lit (.string [97, 115, 115, 117, 109, 101]), .lit (.string [110, 111, 110, 100, 101, 116]), .lit (.string [116, 114, 117, 101]), .lit (.string [102, 97, 108, 115, 101])] []
def laid_skua_parse_types {H : Type} : DataW H := .slice [.lit (.string [98, 111, 111, 108]), .lit (.string [117, 56]), .lit (.string [117, 49, 54]), .lit (.string [117, 51, 50]), .lit (.string [117, 54, 52]), .lit (.string [105, 56]), .lit (.string [105, 49, 54]), .lit (.string [105, 51, 50]), .lit (.string [105, 54, 52])] []
def laid_skua_check_boolean {H : Type} : DataW H := .agg [.lit (.int .i64 1), .lit (.bool false)]
def laid_skua_check_wide {H : Type} : DataW H := .agg [.lit (.int .i64 64), .lit (.bool false)]

/-- 'skualaw04.CheckBlanks': WHATEVER THE INPUT: true; the input reads as it did. -/
def checkBlanksSpec : ChangeSpec := { name := "checkBlanks", fn := fun _ => fun
  | [d] => { results := [.lit (.bool true)], args := [d] }
  | _ => none }
def checkBlanksRow : OpenClaim := { program := "ytiajhekdhhhghaagreatdoor", sum := "000e93893a15d12cfd6e5d806d09086ce2749eb21368c3b97c5dedcca86276e0", func := "skua/skualaw04.CheckBlanks", spec := "checkBlanks", inPlace := ["internal/abi.NoEscape", "internal/bytealg.MakeNoZero"], unfollowed := true, recurses := true, named := ["skua/lex.signs", "skua/parse.types", "skua/lex.keywords", "internal/strconv.uint64pow10", "math/bits.deBruijn32tab", "math/bits.deBruijn64tab", "skua/check.boolean", "skua/check.wide", "skua/word.types"], apart := false, laid := [("math/bits.deBruijn32tab", laid_math_bits_deBruijn32tab), ("math/bits.deBruijn64tab", laid_math_bits_deBruijn64tab), ("internal/strconv.uint64pow10", laid_internal_strconv_uint64pow10), ("skua/word.types", laid_skua_word_types), ("skua/lex.signs", laid_skua_lex_signs), ("skua/lex.keywords", laid_skua_lex_keywords), ("skua/parse.types", laid_skua_parse_types), ("skua/check.boolean", laid_skua_check_boolean), ("skua/check.wide", laid_skua_check_wide)] }
def CheckBlanksSaid : Prop := checkBlanksRow.holds Tryz.pinned (OpenSpec.ofChange checkBlanksSpec)

/-- ITS FALSE NEIGHBOUR: 'it returns false'. Refute it at one input. -/
def checkBlanksWrong : ChangeSpec := { name := "checkBlanks", fn := fun _ => fun
  | [d] => { results := [.lit (.bool false)], args := [d] }
  | _ => none }
def CheckBlanksWrongFalsely : Prop := checkBlanksRow.holds Tryz.pinned (OpenSpec.ofChange checkBlanksWrong)

/-- 'skualaw04.CheckSound': WHATEVER THE INPUT: true; the input reads as it did. -/
def checkSoundSpec : ChangeSpec := { name := "checkSound", fn := fun _ => fun
  | [d] => { results := [.lit (.bool true)], args := [d] }
  | _ => none }
def checkSoundRow : OpenClaim := { program := "ytiajhekdhhhghaagreatdoor", sum := "000e93893a15d12cfd6e5d806d09086ce2749eb21368c3b97c5dedcca86276e0", func := "skua/skualaw04.CheckSound", spec := "checkSound", inPlace := ["internal/abi.NoEscape", "internal/bytealg.MakeNoZero"], unfollowed := true, recurses := true, named := ["skua/lex.signs", "skua/parse.types", "skua/lex.keywords", "internal/strconv.uint64pow10", "math/bits.deBruijn32tab", "math/bits.deBruijn64tab", "skua/check.boolean", "skua/check.wide", "skua/word.types"], apart := false, laid := [("math/bits.deBruijn32tab", laid_math_bits_deBruijn32tab), ("math/bits.deBruijn64tab", laid_math_bits_deBruijn64tab), ("internal/strconv.uint64pow10", laid_internal_strconv_uint64pow10), ("skua/word.types", laid_skua_word_types), ("skua/lex.signs", laid_skua_lex_signs), ("skua/lex.keywords", laid_skua_lex_keywords), ("skua/parse.types", laid_skua_parse_types), ("skua/check.boolean", laid_skua_check_boolean), ("skua/check.wide", laid_skua_check_wide)] }
def CheckSoundSaid : Prop := checkSoundRow.holds Tryz.pinned (OpenSpec.ofChange checkSoundSpec)

/-- ITS FALSE NEIGHBOUR: 'it returns false'. Refute it at one input. -/
def checkSoundWrong : ChangeSpec := { name := "checkSound", fn := fun _ => fun
  | [d] => { results := [.lit (.bool false)], args := [d] }
  | _ => none }
def CheckSoundWrongFalsely : Prop := checkSoundRow.holds Tryz.pinned (OpenSpec.ofChange checkSoundWrong)

/-- 'skualaw04.CheckAgain': WHATEVER THE INPUT: true; the input reads as it did. -/
def checkAgainSpec : ChangeSpec := { name := "checkAgain", fn := fun _ => fun
  | [d1, d2] => { results := [.lit (.bool true)], args := [d1, d2] }
  | _ => none }
def checkAgainRow : OpenClaim := { program := "ytiajhekdhhhghaagreatdoor", sum := "000e93893a15d12cfd6e5d806d09086ce2749eb21368c3b97c5dedcca86276e0", func := "skua/skualaw04.CheckAgain", spec := "checkAgain", inPlace := ["internal/abi.NoEscape", "internal/bytealg.MakeNoZero"], unfollowed := true, recurses := true, named := ["skua/lex.signs", "skua/parse.types", "skua/lex.keywords", "internal/strconv.uint64pow10", "math/bits.deBruijn32tab", "math/bits.deBruijn64tab", "skua/check.boolean", "skua/check.wide", "skua/word.types"], apart := false, laid := [("math/bits.deBruijn32tab", laid_math_bits_deBruijn32tab), ("math/bits.deBruijn64tab", laid_math_bits_deBruijn64tab), ("internal/strconv.uint64pow10", laid_internal_strconv_uint64pow10), ("skua/word.types", laid_skua_word_types), ("skua/lex.signs", laid_skua_lex_signs), ("skua/lex.keywords", laid_skua_lex_keywords), ("skua/parse.types", laid_skua_parse_types), ("skua/check.boolean", laid_skua_check_boolean), ("skua/check.wide", laid_skua_check_wide)] }
def CheckAgainSaid : Prop := checkAgainRow.holds Tryz.pinned (OpenSpec.ofChange checkAgainSpec)

/-- ITS FALSE NEIGHBOUR: 'it returns false'. Refute it at one input. -/
def checkAgainWrong : ChangeSpec := { name := "checkAgain", fn := fun _ => fun
  | [d1, d2] => { results := [.lit (.bool false)], args := [d1, d2] }
  | _ => none }
def CheckAgainWrongFalsely : Prop := checkAgainRow.holds Tryz.pinned (OpenSpec.ofChange checkAgainWrong)

/-- 'skualaw04.CheckUnused': WHATEVER THE INPUT: true; the input reads as it did. -/
def checkUnusedSpec : ChangeSpec := { name := "checkUnused", fn := fun _ => fun
  | [d] => { results := [.lit (.bool true)], args := [d] }
  | _ => none }
def checkUnusedRow : OpenClaim := { program := "ytiajhekdhhhghaagreatdoor", sum := "000e93893a15d12cfd6e5d806d09086ce2749eb21368c3b97c5dedcca86276e0", func := "skua/skualaw04.CheckUnused", spec := "checkUnused", inPlace := ["internal/abi.NoEscape", "internal/bytealg.MakeNoZero"], unfollowed := true, recurses := true, named := ["skua/lex.signs", "skua/parse.types", "skua/lex.keywords", "internal/strconv.uint64pow10", "math/bits.deBruijn32tab", "math/bits.deBruijn64tab", "skua/check.boolean", "skua/check.wide", "skua/word.types"], apart := false, laid := [("math/bits.deBruijn32tab", laid_math_bits_deBruijn32tab), ("math/bits.deBruijn64tab", laid_math_bits_deBruijn64tab), ("internal/strconv.uint64pow10", laid_internal_strconv_uint64pow10), ("skua/word.types", laid_skua_word_types), ("skua/lex.signs", laid_skua_lex_signs), ("skua/lex.keywords", laid_skua_lex_keywords), ("skua/parse.types", laid_skua_parse_types), ("skua/check.boolean", laid_skua_check_boolean), ("skua/check.wide", laid_skua_check_wide)] }
def CheckUnusedSaid : Prop := checkUnusedRow.holds Tryz.pinned (OpenSpec.ofChange checkUnusedSpec)

/-- ITS FALSE NEIGHBOUR: 'it returns false'. Refute it at one input. -/
def checkUnusedWrong : ChangeSpec := { name := "checkUnused", fn := fun _ => fun
  | [d] => { results := [.lit (.bool false)], args := [d] }
  | _ => none }
def CheckUnusedWrongFalsely : Prop := checkUnusedRow.holds Tryz.pinned (OpenSpec.ofChange checkUnusedWrong)

/- THE SECOND FORM. 'bulk': how many values and letters a reading holds, each counted each time it is reached (what is shared counts as often as it is met; a slice's spare places count too). A statement '..UptoSaid' is the law's where the arguments, and the package variables that the reading takes, are together of bulk at most 1048576: NARROWER than '..Said'. Prove '..Said' where nothing that the law and all that it calls make is longer than what came in: it says more and counts as full. Else prove '..UptoSaid'. A law counts once. -/
mutual
def uptoBulk {H : Type} : DataW H → Nat
  | .lit (.string bytes) => bytes.length + 1
  | .lit _ => 1
  | .nil => 1
  | .ptr d => uptoBulk d + 1
  | .slice elems spare => uptoBulkAll elems + uptoBulkAll spare + 1
  | .agg parts => uptoBulkAll parts + 1
  | .iface _ d => uptoBulk d + 1
  | .map entries => uptoBulkEntries entries + 1
  | .held _ => 1
def uptoBulkAll {H : Type} : List (DataW H) → Nat
  | [] => 0
  | d :: r => uptoBulk d + uptoBulkAll r
def uptoBulkEntries {H : Type} : List (Lit × DataW H) → Nat
  | [] => 0
  | x :: r => uptoBulkEntry x + uptoBulkEntries r
def uptoBulkEntry {H : Type} : Lit × DataW H → Nat
  | (.string bytes, d) => bytes.length + uptoBulk d + 1
  | (_, d) => uptoBulk d + 1
 end
def uptoSmall : (H : Type) → List (DataW H) → Bool := fun _ ds => decide (uptoBulkAll ds ≤ 1048576)
def OpenSpec.upto (s : _root_.Go.ChangeSpec) : _root_.Go.OpenSpec := { _root_.Go.OpenSpec.ofChange s with cond := some uptoSmall }

/-- 'skualaw04.CheckBlanks', WHERE WHAT IT READS IS OF BULK AT MOST 1048576: true; the input reads as it did. -/
def checkBlanksUptoRow : OpenClaim := { program := "ytiajhekdhhhghaagreatdoor", sum := "000e93893a15d12cfd6e5d806d09086ce2749eb21368c3b97c5dedcca86276e0", func := "skua/skualaw04.CheckBlanks", spec := "checkBlanks", inPlace := ["internal/abi.NoEscape", "internal/bytealg.MakeNoZero"], unfollowed := true, recurses := true, named := ["skua/lex.signs", "skua/parse.types", "skua/lex.keywords", "internal/strconv.uint64pow10", "math/bits.deBruijn32tab", "math/bits.deBruijn64tab", "skua/check.boolean", "skua/check.wide", "skua/word.types"], apart := false, laid := [("math/bits.deBruijn32tab", laid_math_bits_deBruijn32tab), ("math/bits.deBruijn64tab", laid_math_bits_deBruijn64tab), ("internal/strconv.uint64pow10", laid_internal_strconv_uint64pow10), ("skua/word.types", laid_skua_word_types), ("skua/lex.signs", laid_skua_lex_signs), ("skua/lex.keywords", laid_skua_lex_keywords), ("skua/parse.types", laid_skua_parse_types), ("skua/check.boolean", laid_skua_check_boolean), ("skua/check.wide", laid_skua_check_wide)], narrowed := true }
def CheckBlanksUptoSaid : Prop := checkBlanksUptoRow.holds Tryz.pinned (OpenSpec.upto checkBlanksSpec)

/-- 'skualaw04.CheckSound', WHERE WHAT IT READS IS OF BULK AT MOST 1048576: true; the input reads as it did. -/
def checkSoundUptoRow : OpenClaim := { program := "ytiajhekdhhhghaagreatdoor", sum := "000e93893a15d12cfd6e5d806d09086ce2749eb21368c3b97c5dedcca86276e0", func := "skua/skualaw04.CheckSound", spec := "checkSound", inPlace := ["internal/abi.NoEscape", "internal/bytealg.MakeNoZero"], unfollowed := true, recurses := true, named := ["skua/lex.signs", "skua/parse.types", "skua/lex.keywords", "internal/strconv.uint64pow10", "math/bits.deBruijn32tab", "math/bits.deBruijn64tab", "skua/check.boolean", "skua/check.wide", "skua/word.types"], apart := false, laid := [("math/bits.deBruijn32tab", laid_math_bits_deBruijn32tab), ("math/bits.deBruijn64tab", laid_math_bits_deBruijn64tab), ("internal/strconv.uint64pow10", laid_internal_strconv_uint64pow10), ("skua/word.types", laid_skua_word_types), ("skua/lex.signs", laid_skua_lex_signs), ("skua/lex.keywords", laid_skua_lex_keywords), ("skua/parse.types", laid_skua_parse_types), ("skua/check.boolean", laid_skua_check_boolean), ("skua/check.wide", laid_skua_check_wide)], narrowed := true }
def CheckSoundUptoSaid : Prop := checkSoundUptoRow.holds Tryz.pinned (OpenSpec.upto checkSoundSpec)

/-- 'skualaw04.CheckAgain', WHERE WHAT IT READS IS OF BULK AT MOST 1048576: true; the input reads as it did. -/
def checkAgainUptoRow : OpenClaim := { program := "ytiajhekdhhhghaagreatdoor", sum := "000e93893a15d12cfd6e5d806d09086ce2749eb21368c3b97c5dedcca86276e0", func := "skua/skualaw04.CheckAgain", spec := "checkAgain", inPlace := ["internal/abi.NoEscape", "internal/bytealg.MakeNoZero"], unfollowed := true, recurses := true, named := ["skua/lex.signs", "skua/parse.types", "skua/lex.keywords", "internal/strconv.uint64pow10", "math/bits.deBruijn32tab", "math/bits.deBruijn64tab", "skua/check.boolean", "skua/check.wide", "skua/word.types"], apart := false, laid := [("math/bits.deBruijn32tab", laid_math_bits_deBruijn32tab), ("math/bits.deBruijn64tab", laid_math_bits_deBruijn64tab), ("internal/strconv.uint64pow10", laid_internal_strconv_uint64pow10), ("skua/word.types", laid_skua_word_types), ("skua/lex.signs", laid_skua_lex_signs), ("skua/lex.keywords", laid_skua_lex_keywords), ("skua/parse.types", laid_skua_parse_types), ("skua/check.boolean", laid_skua_check_boolean), ("skua/check.wide", laid_skua_check_wide)], narrowed := true }
def CheckAgainUptoSaid : Prop := checkAgainUptoRow.holds Tryz.pinned (OpenSpec.upto checkAgainSpec)

/-- 'skualaw04.CheckUnused', WHERE WHAT IT READS IS OF BULK AT MOST 1048576: true; the input reads as it did. -/
def checkUnusedUptoRow : OpenClaim := { program := "ytiajhekdhhhghaagreatdoor", sum := "000e93893a15d12cfd6e5d806d09086ce2749eb21368c3b97c5dedcca86276e0", func := "skua/skualaw04.CheckUnused", spec := "checkUnused", inPlace := ["internal/abi.NoEscape", "internal/bytealg.MakeNoZero"], unfollowed := true, recurses := true, named := ["skua/lex.signs", "skua/parse.types", "skua/lex.keywords", "internal/strconv.uint64pow10", "math/bits.deBruijn32tab", "math/bits.deBruijn64tab", "skua/check.boolean", "skua/check.wide", "skua/word.types"], apart := false, laid := [("math/bits.deBruijn32tab", laid_math_bits_deBruijn32tab), ("math/bits.deBruijn64tab", laid_math_bits_deBruijn64tab), ("internal/strconv.uint64pow10", laid_internal_strconv_uint64pow10), ("skua/word.types", laid_skua_word_types), ("skua/lex.signs", laid_skua_lex_signs), ("skua/lex.keywords", laid_skua_lex_keywords), ("skua/parse.types", laid_skua_parse_types), ("skua/check.boolean", laid_skua_check_boolean), ("skua/check.wide", laid_skua_check_wide)], narrowed := true }
def CheckUnusedUptoSaid : Prop := checkUnusedUptoRow.holds Tryz.pinned (OpenSpec.upto checkUnusedSpec)

end Rows
end Go.Proofs.YtiajhekdhhhghaaGreatDoor
