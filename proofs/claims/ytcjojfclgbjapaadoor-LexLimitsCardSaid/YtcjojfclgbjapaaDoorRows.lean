/-
  NARROWER THAN 'FOR EVERY INPUT', by the rows' own cells (each row's printed sentence says how): LexReads: laid · LexRound: laid · LexBlanks: laid · LexPlaces: laid · LexLimits: laid · LexKeys: laid.
  DERIVED. THE GIVEN ROWS OF THIS SEAT. 6 by the template 'for every input the law returns true; each argument reads behind the call as it read before'; 0 by the template 'total and deterministic' (their statements: YtcjojfclgbjapaaDoorTotals.lean).
  GIVEN WITH THE SEED: the statements are not yours to turn. If you find one false, say at which input.
  Laid BY PROGRAM, IN A SANDBOX (cutbox-rows.mjs): the forced cells as the released guide's own fill.sh prints them over the translation e2f72aa27718fc9a… (all of the seat's roots in one cut). By AI agents, Wed Nov 11 2026. No macro, syntax, notation, axiom, sorry.
-/
import Derived.Test.YtcjojfclgbjapaaDoorChecked
import GoSem.Claim
import GoSem.ClaimJoined
import GoSem.ClaimMapViews
import Derived.JoinedTies
import Derived.KernelRfl
namespace Go.Proofs.YtcjojfclgbjapaaDoor
/- THE CELL 'sum', in the pinned program and in every row, IS THE sha256 OF THE DUMP (.gsa) THAT YtcjojfclgbjapaaDoorProg.lean LOADS. Nothing in Lean hashes anything: it is a label: what it is worth is what the hold of that sum in a sandbox is worth. -/
noncomputable def Tryd.pinned : Pinned := { name := "ytcjojfclgbjapaadoor", sum := "e2f72aa27718fc9a7e39bafa6cbacdf59cd5526ed5438074bd1293daf287f303", checked := Tryd.checked }
namespace Rows
def none {H : Type} : Left H := { results := [], args := [] }

/- WHAT THE LISTED PACKAGE-LEVEL VARIABLES READ AS WHEN THE CALL BEGINS. Each datum BY PROGRAM (the guide's laid-datum.mjs) off the statement by which the dump's own 'gosem.cut.vars' lays the variable. In a bare row this is a premise. The card (YtcjojfclgbjapaaDoorCards.lean) ties it to the program's text. -/
def laid_fugue_lex_symbols {H : Type} : DataW H := .agg [.lit (.string [45, 62]), .lit (.string [61, 62]), .lit (.string [92]), .lit (.string [61]), .lit (.string [124]), .lit (.string [40]), .lit (.string [41]), .lit (.string [123]), .lit (.string [125]), .lit (.string [59]), .lit (.string [58]), .lit (.string [44]), .lit (.string [95])]

/-- 'fuguelaw02.LexReads': WHATEVER THE INPUT: true; the input reads as it did. -/
def lexReadsSpec : ChangeSpec := { name := "lexReads", fn := fun _ => fun
  | [d1, d2, d3] => { results := [.lit (.bool true)], args := [d1, d2, d3] }
  | _ => none }
def lexReadsRow : OpenClaim := { program := "ytcjojfclgbjapaadoor", sum := "e2f72aa27718fc9a7e39bafa6cbacdf59cd5526ed5438074bd1293daf287f303", func := "fugue/fuguelaw02.LexReads", spec := "lexReads", inPlace := ["internal/bytealg.IndexByteString"], unfollowed := true, recurses := true, named := ["fugue/lex.symbols"], apart := false, laid := [("fugue/lex.symbols", laid_fugue_lex_symbols)] }
def LexReadsSaid : Prop := lexReadsRow.holds Tryd.pinned (OpenSpec.ofChange lexReadsSpec)

/-- ITS FALSE NEIGHBOUR: 'it returns false'. Refute it at one input. -/
def lexReadsWrong : ChangeSpec := { name := "lexReads", fn := fun _ => fun
  | [d1, d2, d3] => { results := [.lit (.bool false)], args := [d1, d2, d3] }
  | _ => none }
def LexReadsWrongFalsely : Prop := lexReadsRow.holds Tryd.pinned (OpenSpec.ofChange lexReadsWrong)

/-- 'fuguelaw02.LexRound': WHATEVER THE INPUT: true; the input reads as it did. -/
def lexRoundSpec : ChangeSpec := { name := "lexRound", fn := fun _ => fun
  | [d1, d2] => { results := [.lit (.bool true)], args := [d1, d2] }
  | _ => none }
def lexRoundRow : OpenClaim := { program := "ytcjojfclgbjapaadoor", sum := "e2f72aa27718fc9a7e39bafa6cbacdf59cd5526ed5438074bd1293daf287f303", func := "fugue/fuguelaw02.LexRound", spec := "lexRound", inPlace := ["internal/bytealg.IndexByteString", "internal/abi.NoEscape", "internal/bytealg.MakeNoZero"], unfollowed := true, recurses := true, named := ["fugue/lex.symbols"], apart := false, laid := [("fugue/lex.symbols", laid_fugue_lex_symbols)] }
def LexRoundSaid : Prop := lexRoundRow.holds Tryd.pinned (OpenSpec.ofChange lexRoundSpec)

/-- ITS FALSE NEIGHBOUR: 'it returns false'. Refute it at one input. -/
def lexRoundWrong : ChangeSpec := { name := "lexRound", fn := fun _ => fun
  | [d1, d2] => { results := [.lit (.bool false)], args := [d1, d2] }
  | _ => none }
def LexRoundWrongFalsely : Prop := lexRoundRow.holds Tryd.pinned (OpenSpec.ofChange lexRoundWrong)

/-- 'fuguelaw02.LexBlanks': WHATEVER THE INPUT: true; the input reads as it did. -/
def lexBlanksSpec : ChangeSpec := { name := "lexBlanks", fn := fun _ => fun
  | [d1, d2, d3] => { results := [.lit (.bool true)], args := [d1, d2, d3] }
  | _ => none }
def lexBlanksRow : OpenClaim := { program := "ytcjojfclgbjapaadoor", sum := "e2f72aa27718fc9a7e39bafa6cbacdf59cd5526ed5438074bd1293daf287f303", func := "fugue/fuguelaw02.LexBlanks", spec := "lexBlanks", inPlace := ["internal/bytealg.IndexByteString"], unfollowed := true, recurses := true, named := ["fugue/lex.symbols"], apart := false, laid := [("fugue/lex.symbols", laid_fugue_lex_symbols)] }
def LexBlanksSaid : Prop := lexBlanksRow.holds Tryd.pinned (OpenSpec.ofChange lexBlanksSpec)

/-- ITS FALSE NEIGHBOUR: 'it returns false'. Refute it at one input. -/
def lexBlanksWrong : ChangeSpec := { name := "lexBlanks", fn := fun _ => fun
  | [d1, d2, d3] => { results := [.lit (.bool false)], args := [d1, d2, d3] }
  | _ => none }
def LexBlanksWrongFalsely : Prop := lexBlanksRow.holds Tryd.pinned (OpenSpec.ofChange lexBlanksWrong)

/-- 'fuguelaw02.LexPlaces': WHATEVER THE INPUT: true; the input reads as it did. -/
def lexPlacesSpec : ChangeSpec := { name := "lexPlaces", fn := fun _ => fun
  | [d1, d2] => { results := [.lit (.bool true)], args := [d1, d2] }
  | _ => none }
def lexPlacesRow : OpenClaim := { program := "ytcjojfclgbjapaadoor", sum := "e2f72aa27718fc9a7e39bafa6cbacdf59cd5526ed5438074bd1293daf287f303", func := "fugue/fuguelaw02.LexPlaces", spec := "lexPlaces", inPlace := ["internal/bytealg.IndexByteString"], unfollowed := true, recurses := true, named := ["fugue/lex.symbols"], apart := false, laid := [("fugue/lex.symbols", laid_fugue_lex_symbols)] }
def LexPlacesSaid : Prop := lexPlacesRow.holds Tryd.pinned (OpenSpec.ofChange lexPlacesSpec)

/-- ITS FALSE NEIGHBOUR: 'it returns false'. Refute it at one input. -/
def lexPlacesWrong : ChangeSpec := { name := "lexPlaces", fn := fun _ => fun
  | [d1, d2] => { results := [.lit (.bool false)], args := [d1, d2] }
  | _ => none }
def LexPlacesWrongFalsely : Prop := lexPlacesRow.holds Tryd.pinned (OpenSpec.ofChange lexPlacesWrong)

/-- 'fuguelaw02.LexLimits': WHATEVER THE INPUT: true; the input reads as it did. -/
def lexLimitsSpec : ChangeSpec := { name := "lexLimits", fn := fun _ => fun
  | [d1, d2, d3] => { results := [.lit (.bool true)], args := [d1, d2, d3] }
  | _ => none }
def lexLimitsRow : OpenClaim := { program := "ytcjojfclgbjapaadoor", sum := "e2f72aa27718fc9a7e39bafa6cbacdf59cd5526ed5438074bd1293daf287f303", func := "fugue/fuguelaw02.LexLimits", spec := "lexLimits", inPlace := ["internal/bytealg.IndexByteString"], unfollowed := true, recurses := true, named := ["fugue/lex.symbols"], apart := false, laid := [("fugue/lex.symbols", laid_fugue_lex_symbols)] }
def LexLimitsSaid : Prop := lexLimitsRow.holds Tryd.pinned (OpenSpec.ofChange lexLimitsSpec)

/-- ITS FALSE NEIGHBOUR: 'it returns false'. Refute it at one input. -/
def lexLimitsWrong : ChangeSpec := { name := "lexLimits", fn := fun _ => fun
  | [d1, d2, d3] => { results := [.lit (.bool false)], args := [d1, d2, d3] }
  | _ => none }
def LexLimitsWrongFalsely : Prop := lexLimitsRow.holds Tryd.pinned (OpenSpec.ofChange lexLimitsWrong)

/-- 'fuguelaw02.LexKeys': WHATEVER THE INPUT: true; the input reads as it did. -/
def lexKeysSpec : ChangeSpec := { name := "lexKeys", fn := fun _ => fun
  | [d1, d2] => { results := [.lit (.bool true)], args := [d1, d2] }
  | _ => none }
def lexKeysRow : OpenClaim := { program := "ytcjojfclgbjapaadoor", sum := "e2f72aa27718fc9a7e39bafa6cbacdf59cd5526ed5438074bd1293daf287f303", func := "fugue/fuguelaw02.LexKeys", spec := "lexKeys", inPlace := ["internal/bytealg.IndexByteString"], unfollowed := true, recurses := true, named := ["fugue/lex.symbols"], apart := false, laid := [("fugue/lex.symbols", laid_fugue_lex_symbols)] }
def LexKeysSaid : Prop := lexKeysRow.holds Tryd.pinned (OpenSpec.ofChange lexKeysSpec)

/-- ITS FALSE NEIGHBOUR: 'it returns false'. Refute it at one input. -/
def lexKeysWrong : ChangeSpec := { name := "lexKeys", fn := fun _ => fun
  | [d1, d2] => { results := [.lit (.bool false)], args := [d1, d2] }
  | _ => none }
def LexKeysWrongFalsely : Prop := lexKeysRow.holds Tryd.pinned (OpenSpec.ofChange lexKeysWrong)

/- THE SECOND FORM. 'bulk': how many values and letters a reading holds, each counted each time it is reached (what is shared counts as often as it is met; a slice's spare places count too). A statement '..UptoSaid' is the law's where the arguments, and the package variables that the reading takes, are together of bulk at most 1048576: NARROWER than '..Said'. Prove '..Said' where nothing that the law and all that it calls make is longer than what came in: it says more and counts as full. Else prove '..UptoSaid'. A law counts once. -/
mutual
def uptoBulk {H : Type} : DataW H → Nat
  | .lit (.string bytes) => bytes.length + 1
  | .lit _ => 1
  | .nil => 1
  | .ptr d => uptoBulk d + 1
  | .slice elems spare => uptoBulkAll elems + uptoBulkAll spare + 1
  | .agg parts => uptoBulkAll parts + 1
  | .iface _ d => uptoBulk d + 1
  | .map entries => uptoBulkEntries entries + 1
  | .held _ => 1
def uptoBulkAll {H : Type} : List (DataW H) → Nat
  | [] => 0
  | d :: r => uptoBulk d + uptoBulkAll r
def uptoBulkEntries {H : Type} : List (Lit × DataW H) → Nat
  | [] => 0
  | x :: r => uptoBulkEntry x + uptoBulkEntries r
def uptoBulkEntry {H : Type} : Lit × DataW H → Nat
  | (.string bytes, d) => bytes.length + uptoBulk d + 1
  | (_, d) => uptoBulk d + 1
 end
def uptoSmall : (H : Type) → List (DataW H) → Bool := fun _ ds => decide (uptoBulkAll ds ≤ 1048576)
def OpenSpec.upto (s : _root_.Go.ChangeSpec) : _root_.Go.OpenSpec := { _root_.Go.OpenSpec.ofChange s with cond := some uptoSmall }

/-- 'fuguelaw02.LexReads', WHERE WHAT IT READS IS OF BULK AT MOST 1048576: true; the input reads as it did. -/
def lexReadsUptoRow : OpenClaim := { program := "ytcjojfclgbjapaadoor", sum := "e2f72aa27718fc9a7e39bafa6cbacdf59cd5526ed5438074bd1293daf287f303", func := "fugue/fuguelaw02.LexReads", spec := "lexReads", inPlace := ["internal/bytealg.IndexByteString"], unfollowed := true, recurses := true, named := ["fugue/lex.symbols"], apart := false, laid := [("fugue/lex.symbols", laid_fugue_lex_symbols)], narrowed := true }
def LexReadsUptoSaid : Prop := lexReadsUptoRow.holds Tryd.pinned (OpenSpec.upto lexReadsSpec)

/-- 'fuguelaw02.LexRound', WHERE WHAT IT READS IS OF BULK AT MOST 1048576: true; the input reads as it did. -/
def lexRoundUptoRow : OpenClaim := { program := "ytcjojfclgbjapaadoor", sum := "e2f72aa27718fc9a7e39bafa6cbacdf59cd5526ed5438074bd1293daf287f303", func := "fugue/fuguelaw02.LexRound", spec := "lexRound", inPlace := ["internal/bytealg.IndexByteString", "internal/abi.NoEscape", "internal/bytealg.MakeNoZero"], unfollowed := true, recurses := true, named := ["fugue/lex.symbols"], apart := false, laid := [("fugue/lex.symbols", laid_fugue_lex_symbols)], narrowed := true }
def LexRoundUptoSaid : Prop := lexRoundUptoRow.holds Tryd.pinned (OpenSpec.upto lexRoundSpec)

/-- 'fuguelaw02.LexBlanks', WHERE WHAT IT READS IS OF BULK AT MOST 1048576: true; the input reads as it did. -/
def lexBlanksUptoRow : OpenClaim := { program := "ytcjojfclgbjapaadoor", sum := "e2f72aa27718fc9a7e39bafa6cbacdf59cd5526ed5438074bd1293daf287f303", func := "fugue/fuguelaw02.LexBlanks", spec := "lexBlanks", inPlace := ["internal/bytealg.IndexByteString"], unfollowed := true, recurses := true, named := ["fugue/lex.symbols"], apart := false, laid := [("fugue/lex.symbols", laid_fugue_lex_symbols)], narrowed := true }
def LexBlanksUptoSaid : Prop := lexBlanksUptoRow.holds Tryd.pinned (OpenSpec.upto lexBlanksSpec)

/-- 'fuguelaw02.LexPlaces', WHERE WHAT IT READS IS OF BULK AT MOST 1048576: true; the input reads as it did. -/
def lexPlacesUptoRow : OpenClaim := { program := "ytcjojfclgbjapaadoor", sum := "e2f72aa27718fc9a7e39bafa6cbacdf59cd5526ed5438074bd1293daf287f303", func := "fugue/fuguelaw02.LexPlaces", spec := "lexPlaces", inPlace := ["internal/bytealg.IndexByteString"], unfollowed := true, recurses := true, named := ["fugue/lex.symbols"], apart := false, laid := [("fugue/lex.symbols", laid_fugue_lex_symbols)], narrowed := true }
def LexPlacesUptoSaid : Prop := lexPlacesUptoRow.holds Tryd.pinned (OpenSpec.upto lexPlacesSpec)

/-- 'fuguelaw02.LexLimits', WHERE WHAT IT READS IS OF BULK AT MOST 1048576: true; the input reads as it did. -/
def lexLimitsUptoRow : OpenClaim := { program := "ytcjojfclgbjapaadoor", sum := "e2f72aa27718fc9a7e39bafa6cbacdf59cd5526ed5438074bd1293daf287f303", func := "fugue/fuguelaw02.LexLimits", spec := "lexLimits", inPlace := ["internal/bytealg.IndexByteString"], unfollowed := true, recurses := true, named := ["fugue/lex.symbols"], apart := false, laid := [("fugue/lex.symbols", laid_fugue_lex_symbols)], narrowed := true }
def LexLimitsUptoSaid : Prop := lexLimitsUptoRow.holds Tryd.pinned (OpenSpec.upto lexLimitsSpec)

/-- 'fuguelaw02.LexKeys', WHERE WHAT IT READS IS OF BULK AT MOST 1048576: true; the input reads as it did. -/
def lexKeysUptoRow : OpenClaim := { program := "ytcjojfclgbjapaadoor", sum := "e2f72aa27718fc9a7e39bafa6cbacdf59cd5526ed5438074bd1293daf287f303", func := "fugue/fuguelaw02.LexKeys", spec := "lexKeys", inPlace := ["internal/bytealg.IndexByteString"], unfollowed := true, recurses := true, named := ["fugue/lex.symbols"], apart := false, laid := [("fugue/lex.symbols", laid_fugue_lex_symbols)], narrowed := true }
def LexKeysUptoSaid : Prop := lexKeysUptoRow.holds Tryd.pinned (OpenSpec.upto lexKeysSpec)

end Rows
end Go.Proofs.YtcjojfclgbjapaaDoor
