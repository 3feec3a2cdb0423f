/-
  NARROWER THAN 'FOR EVERY INPUT', by the rows' own cells (each row's printed sentence says how): CompRefuses: laid · CompApart: laid · TurnActs: laid · TurnMeets: laid · TurnTies: laid.
  DERIVED. THE GIVEN ROWS OF THIS SEAT. 5 by the template 'for every input the law returns true; each argument reads behind the call as it read before'; 0 by the template 'total and deterministic' (their statements: YthnljaheplhbkaaDoorTotals.lean).
  GIVEN WITH THE SEED: the statements are not yours to turn. If you find one false, say at which input.
  Laid BY PROGRAM, IN A SANDBOX (cutbox-rows.mjs): the forced cells as the released guide's own fill.sh prints them over the translation debad63dbc6db982… (all of the seat's roots in one cut). By AI agents, Wed Nov 11 2026. No macro, syntax, notation, axiom, sorry.
-/
import Derived.Test.YthnljaheplhbkaaDoorChecked
import GoSem.PinnedTables
import GoSem.Claim
import GoSem.ClaimJoined
import GoSem.ClaimMapViews
import Derived.JoinedTies
import Derived.KernelRfl
namespace Go.Proofs.YthnljaheplhbkaaDoor
/- THE CELL 'sum', in the pinned program and in every row, IS THE sha256 OF THE DUMP (.gsa) THAT YthnljaheplhbkaaDoorProg.lean LOADS. Nothing in Lean hashes anything: it is a label: what it is worth is what the hold of that sum in a sandbox is worth. -/
noncomputable def Tryd.pinned : Pinned := { name := "ythnljaheplhbkaadoor", sum := "debad63dbc6db982a41fecf0ae4c97a8ce60768b615665f9006a8d085f743e1d", checked := Tryd.checked }
namespace Rows
def none {H : Type} : Left H := { results := [], args := [] }

/- WHAT THE LISTED PACKAGE-LEVEL VARIABLES READ AS WHEN THE CALL BEGINS. Each datum BY PROGRAM (the guide's laid-datum.mjs) off the statement by which the dump's own 'gosem.cut.vars' lays the variable. In a bare row this is a premise. The card (YthnljaheplhbkaaDoorCards.lean) ties it to the program's text. -/
def laid_unicode_utf8_acceptRanges {H : Type} : DataW H := .agg [.agg [.lit (.int .u8 128), .lit (.int .u8 191)], .agg [.lit (.int .u8 160), .lit (.int .u8 191)], .agg [.lit (.int .u8 128), .lit (.int .u8 159)], .agg [.lit (.int .u8 144), .lit (.int .u8 191)], .agg [.lit (.int .u8 128), .lit (.int .u8 143)], .agg [.lit (.int .u8 0), .lit (.int .u8 0)], .agg [.lit (.int .u8 0), .lit (.int .u8 0)], .agg [.lit (.int .u8 0), .lit (.int .u8 0)], .agg [.lit (.int .u8 0), .lit (.int .u8 0)], .agg [.lit (.int .u8 0), .lit (.int .u8 0)], .agg [.lit (.int .u8 0), .lit (.int .u8 0)], .agg [.lit (.int .u8 0), .lit (.int .u8 0)], .agg [.lit (.int .u8 0), .lit (.int .u8 0)], .agg [.lit (.int .u8 0), .lit (.int .u8 0)], .agg [.lit (.int .u8 0), .lit (.int .u8 0)], .agg [.lit (.int .u8 0), .lit (.int .u8 0)]]
/-- One of Go's own tables, pinned by name: the form's constant. -/
def laid_unicode_utf8_first : DataW Unit := Go.Pinned.utf8First

/-- 'conciliatorlaw06.CompRefuses': WHATEVER THE INPUT: true; the input reads as it did. -/
def compRefusesSpec : ChangeSpec := { name := "compRefuses", fn := fun _ => fun
  | [d1, d2] => { results := [.lit (.bool true)], args := [d1, d2] }
  | _ => none }
def compRefusesRow : OpenClaim := { program := "ythnljaheplhbkaadoor", sum := "debad63dbc6db982a41fecf0ae4c97a8ce60768b615665f9006a8d085f743e1d", func := "conciliator/conciliatorlaw06.CompRefuses", spec := "compRefuses", inPlace := ["slices.overlaps[conciliator/api.Field]", "internal/abi.NoEscape", "internal/bytealg.MakeNoZero"], unfollowed := true, recurses := true, named := ["unicode/utf8.first", "unicode/utf8.acceptRanges"], apart := false, laid := [("unicode/utf8.acceptRanges", laid_unicode_utf8_acceptRanges), ("unicode/utf8.first", laid_unicode_utf8_first)] }
def CompRefusesSaid : Prop := compRefusesRow.holds Tryd.pinned (OpenSpec.ofChange compRefusesSpec)

/-- ITS FALSE NEIGHBOUR: 'it returns false'. Refute it at one input. -/
def compRefusesWrong : ChangeSpec := { name := "compRefuses", fn := fun _ => fun
  | [d1, d2] => { results := [.lit (.bool false)], args := [d1, d2] }
  | _ => none }
def CompRefusesWrongFalsely : Prop := compRefusesRow.holds Tryd.pinned (OpenSpec.ofChange compRefusesWrong)

/-- 'conciliatorlaw06.CompApart': WHATEVER THE INPUT: true; the input reads as it did. -/
def compApartSpec : ChangeSpec := { name := "compApart", fn := fun _ => fun
  | [d1, d2, d3] => { results := [.lit (.bool true)], args := [d1, d2, d3] }
  | _ => none }
def compApartRow : OpenClaim := { program := "ythnljaheplhbkaadoor", sum := "debad63dbc6db982a41fecf0ae4c97a8ce60768b615665f9006a8d085f743e1d", func := "conciliator/conciliatorlaw06.CompApart", spec := "compApart", inPlace := ["slices.overlaps[conciliator/api.Field]", "internal/abi.NoEscape", "internal/bytealg.MakeNoZero"], unfollowed := true, recurses := true, named := ["unicode/utf8.first", "unicode/utf8.acceptRanges"], apart := false, laid := [("unicode/utf8.acceptRanges", laid_unicode_utf8_acceptRanges), ("unicode/utf8.first", laid_unicode_utf8_first)] }
def CompApartSaid : Prop := compApartRow.holds Tryd.pinned (OpenSpec.ofChange compApartSpec)

/-- ITS FALSE NEIGHBOUR: 'it returns false'. Refute it at one input. -/
def compApartWrong : ChangeSpec := { name := "compApart", fn := fun _ => fun
  | [d1, d2, d3] => { results := [.lit (.bool false)], args := [d1, d2, d3] }
  | _ => none }
def CompApartWrongFalsely : Prop := compApartRow.holds Tryd.pinned (OpenSpec.ofChange compApartWrong)

/-- 'conciliatorlaw07.TurnActs': WHATEVER THE INPUT: true; the input reads as it did. -/
def turnActsSpec : ChangeSpec := { name := "turnActs", fn := fun _ => fun
  | [d1, d2, d3, d4] => { results := [.lit (.bool true)], args := [d1, d2, d3, d4] }
  | _ => none }
def turnActsRow : OpenClaim := { program := "ythnljaheplhbkaadoor", sum := "debad63dbc6db982a41fecf0ae4c97a8ce60768b615665f9006a8d085f743e1d", func := "conciliator/conciliatorlaw07.TurnActs", spec := "turnActs", unfollowed := true, recurses := true, named := ["unicode/utf8.first", "unicode/utf8.acceptRanges"], apart := false, laid := [("unicode/utf8.acceptRanges", laid_unicode_utf8_acceptRanges), ("unicode/utf8.first", laid_unicode_utf8_first)] }
def TurnActsSaid : Prop := turnActsRow.holds Tryd.pinned (OpenSpec.ofChange turnActsSpec)

/-- ITS FALSE NEIGHBOUR: 'it returns false'. Refute it at one input. -/
def turnActsWrong : ChangeSpec := { name := "turnActs", fn := fun _ => fun
  | [d1, d2, d3, d4] => { results := [.lit (.bool false)], args := [d1, d2, d3, d4] }
  | _ => none }
def TurnActsWrongFalsely : Prop := turnActsRow.holds Tryd.pinned (OpenSpec.ofChange turnActsWrong)

/-- 'conciliatorlaw07.TurnMeets': WHATEVER THE INPUT: true; the input reads as it did. -/
def turnMeetsSpec : ChangeSpec := { name := "turnMeets", fn := fun _ => fun
  | [d1, d2, d3, d4] => { results := [.lit (.bool true)], args := [d1, d2, d3, d4] }
  | _ => none }
def turnMeetsRow : OpenClaim := { program := "ythnljaheplhbkaadoor", sum := "debad63dbc6db982a41fecf0ae4c97a8ce60768b615665f9006a8d085f743e1d", func := "conciliator/conciliatorlaw07.TurnMeets", spec := "turnMeets", unfollowed := true, recurses := true, named := ["unicode/utf8.first", "unicode/utf8.acceptRanges"], apart := false, laid := [("unicode/utf8.acceptRanges", laid_unicode_utf8_acceptRanges), ("unicode/utf8.first", laid_unicode_utf8_first)] }
def TurnMeetsSaid : Prop := turnMeetsRow.holds Tryd.pinned (OpenSpec.ofChange turnMeetsSpec)

/-- ITS FALSE NEIGHBOUR: 'it returns false'. Refute it at one input. -/
def turnMeetsWrong : ChangeSpec := { name := "turnMeets", fn := fun _ => fun
  | [d1, d2, d3, d4] => { results := [.lit (.bool false)], args := [d1, d2, d3, d4] }
  | _ => none }
def TurnMeetsWrongFalsely : Prop := turnMeetsRow.holds Tryd.pinned (OpenSpec.ofChange turnMeetsWrong)

/-- 'conciliatorlaw07.TurnTies': WHATEVER THE INPUT: true; the input reads as it did. -/
def turnTiesSpec : ChangeSpec := { name := "turnTies", fn := fun _ => fun
  | [d1, d2, d3, d4] => { results := [.lit (.bool true)], args := [d1, d2, d3, d4] }
  | _ => none }
def turnTiesRow : OpenClaim := { program := "ythnljaheplhbkaadoor", sum := "debad63dbc6db982a41fecf0ae4c97a8ce60768b615665f9006a8d085f743e1d", func := "conciliator/conciliatorlaw07.TurnTies", spec := "turnTies", unfollowed := true, recurses := true, named := ["unicode/utf8.first", "unicode/utf8.acceptRanges"], apart := false, laid := [("unicode/utf8.acceptRanges", laid_unicode_utf8_acceptRanges), ("unicode/utf8.first", laid_unicode_utf8_first)] }
def TurnTiesSaid : Prop := turnTiesRow.holds Tryd.pinned (OpenSpec.ofChange turnTiesSpec)

/-- ITS FALSE NEIGHBOUR: 'it returns false'. Refute it at one input. -/
def turnTiesWrong : ChangeSpec := { name := "turnTies", fn := fun _ => fun
  | [d1, d2, d3, d4] => { results := [.lit (.bool false)], args := [d1, d2, d3, d4] }
  | _ => none }
def TurnTiesWrongFalsely : Prop := turnTiesRow.holds Tryd.pinned (OpenSpec.ofChange turnTiesWrong)

/- THE SECOND FORM. 'bulk': how many values and letters a reading holds, each counted each time it is reached (what is shared counts as often as it is met; a slice's spare places count too). A statement '..UptoSaid' is the law's where the arguments, and the package variables that the reading takes, are together of bulk at most 1048576: NARROWER than '..Said'. Prove '..Said' where nothing that the law and all that it calls make is longer than what came in: it says more and counts as full. Else prove '..UptoSaid'. A law counts once. -/
mutual
def uptoBulk {H : Type} : DataW H → Nat
  | .lit (.string bytes) => bytes.length + 1
  | .lit _ => 1
  | .nil => 1
  | .ptr d => uptoBulk d + 1
  | .slice elems spare => uptoBulkAll elems + uptoBulkAll spare + 1
  | .agg parts => uptoBulkAll parts + 1
  | .iface _ d => uptoBulk d + 1
  | .map entries => uptoBulkEntries entries + 1
  | .held _ => 1
def uptoBulkAll {H : Type} : List (DataW H) → Nat
  | [] => 0
  | d :: r => uptoBulk d + uptoBulkAll r
def uptoBulkEntries {H : Type} : List (Lit × DataW H) → Nat
  | [] => 0
  | x :: r => uptoBulkEntry x + uptoBulkEntries r
def uptoBulkEntry {H : Type} : Lit × DataW H → Nat
  | (.string bytes, d) => bytes.length + uptoBulk d + 1
  | (_, d) => uptoBulk d + 1
 end
def uptoSmall : (H : Type) → List (DataW H) → Bool := fun _ ds => decide (uptoBulkAll ds ≤ 1048576)
def OpenSpec.upto (s : _root_.Go.ChangeSpec) : _root_.Go.OpenSpec := { _root_.Go.OpenSpec.ofChange s with cond := some uptoSmall }

/-- 'conciliatorlaw06.CompRefuses', WHERE WHAT IT READS IS OF BULK AT MOST 1048576: true; the input reads as it did. -/
def compRefusesUptoRow : OpenClaim := { program := "ythnljaheplhbkaadoor", sum := "debad63dbc6db982a41fecf0ae4c97a8ce60768b615665f9006a8d085f743e1d", func := "conciliator/conciliatorlaw06.CompRefuses", spec := "compRefuses", inPlace := ["slices.overlaps[conciliator/api.Field]", "internal/abi.NoEscape", "internal/bytealg.MakeNoZero"], unfollowed := true, recurses := true, named := ["unicode/utf8.first", "unicode/utf8.acceptRanges"], apart := false, laid := [("unicode/utf8.acceptRanges", laid_unicode_utf8_acceptRanges), ("unicode/utf8.first", laid_unicode_utf8_first)], narrowed := true }
def CompRefusesUptoSaid : Prop := compRefusesUptoRow.holds Tryd.pinned (OpenSpec.upto compRefusesSpec)

/-- 'conciliatorlaw06.CompApart', WHERE WHAT IT READS IS OF BULK AT MOST 1048576: true; the input reads as it did. -/
def compApartUptoRow : OpenClaim := { program := "ythnljaheplhbkaadoor", sum := "debad63dbc6db982a41fecf0ae4c97a8ce60768b615665f9006a8d085f743e1d", func := "conciliator/conciliatorlaw06.CompApart", spec := "compApart", inPlace := ["slices.overlaps[conciliator/api.Field]", "internal/abi.NoEscape", "internal/bytealg.MakeNoZero"], unfollowed := true, recurses := true, named := ["unicode/utf8.first", "unicode/utf8.acceptRanges"], apart := false, laid := [("unicode/utf8.acceptRanges", laid_unicode_utf8_acceptRanges), ("unicode/utf8.first", laid_unicode_utf8_first)], narrowed := true }
def CompApartUptoSaid : Prop := compApartUptoRow.holds Tryd.pinned (OpenSpec.upto compApartSpec)

/-- 'conciliatorlaw07.TurnActs', WHERE WHAT IT READS IS OF BULK AT MOST 1048576: true; the input reads as it did. -/
def turnActsUptoRow : OpenClaim := { program := "ythnljaheplhbkaadoor", sum := "debad63dbc6db982a41fecf0ae4c97a8ce60768b615665f9006a8d085f743e1d", func := "conciliator/conciliatorlaw07.TurnActs", spec := "turnActs", unfollowed := true, recurses := true, named := ["unicode/utf8.first", "unicode/utf8.acceptRanges"], apart := false, laid := [("unicode/utf8.acceptRanges", laid_unicode_utf8_acceptRanges), ("unicode/utf8.first", laid_unicode_utf8_first)], narrowed := true }
def TurnActsUptoSaid : Prop := turnActsUptoRow.holds Tryd.pinned (OpenSpec.upto turnActsSpec)

/-- 'conciliatorlaw07.TurnMeets', WHERE WHAT IT READS IS OF BULK AT MOST 1048576: true; the input reads as it did. -/
def turnMeetsUptoRow : OpenClaim := { program := "ythnljaheplhbkaadoor", sum := "debad63dbc6db982a41fecf0ae4c97a8ce60768b615665f9006a8d085f743e1d", func := "conciliator/conciliatorlaw07.TurnMeets", spec := "turnMeets", unfollowed := true, recurses := true, named := ["unicode/utf8.first", "unicode/utf8.acceptRanges"], apart := false, laid := [("unicode/utf8.acceptRanges", laid_unicode_utf8_acceptRanges), ("unicode/utf8.first", laid_unicode_utf8_first)], narrowed := true }
def TurnMeetsUptoSaid : Prop := turnMeetsUptoRow.holds Tryd.pinned (OpenSpec.upto turnMeetsSpec)

/-- 'conciliatorlaw07.TurnTies', WHERE WHAT IT READS IS OF BULK AT MOST 1048576: true; the input reads as it did. -/
def turnTiesUptoRow : OpenClaim := { program := "ythnljaheplhbkaadoor", sum := "debad63dbc6db982a41fecf0ae4c97a8ce60768b615665f9006a8d085f743e1d", func := "conciliator/conciliatorlaw07.TurnTies", spec := "turnTies", unfollowed := true, recurses := true, named := ["unicode/utf8.first", "unicode/utf8.acceptRanges"], apart := false, laid := [("unicode/utf8.acceptRanges", laid_unicode_utf8_acceptRanges), ("unicode/utf8.first", laid_unicode_utf8_first)], narrowed := true }
def TurnTiesUptoSaid : Prop := turnTiesUptoRow.holds Tryd.pinned (OpenSpec.upto turnTiesSpec)

end Rows
end Go.Proofs.YthnljaheplhbkaaDoor
