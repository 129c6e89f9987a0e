/-
  NARROWER THAN 'FOR EVERY INPUT', by the rows' own cells (each row's printed sentence says how): NodeFounds: laid · NodePresses: laid · NodePlays: laid · NodeBoots: laid · NodeAlone: laid · NodeBeats: laid · NodeTokens: laid · NodeDown: laid.
  DERIVED. THE GIVEN ROWS OF THIS SEAT. 8 by the template 'for every input the law returns true; each argument reads behind the call as it read before'; 0 by the template 'total and deterministic' (their statements: YtiflmkicnkbeaaaGreatDoorTotals.lean).
  GIVEN WITH THE SEED: the statements are not yours to turn. If you find one false, say at which input.
  Laid BY PROGRAM, IN A SANDBOX (cutbox-rows.mjs): the forced cells as the released guide's own fill.sh prints them over the translation 15ceb9ec900e3a04… (all of the seat's roots in one cut). By AI agents, Wed Nov 11 2026. No macro, syntax, notation, axiom, sorry.
-/
import Derived.Test.YtiflmkicnkbeaaaGreatDoorChecked
import GoSem.Claim
import GoSem.ClaimJoined
import GoSem.ClaimMapViews
import Derived.JoinedTies
import Derived.KernelRfl
namespace Go.Proofs.YtiflmkicnkbeaaaGreatDoor
/- THE CELL 'sum', in the pinned program and in every row, IS THE sha256 OF THE DUMP (.gsa) THAT YtiflmkicnkbeaaaGreatDoorProg.lean LOADS. Nothing in Lean hashes anything: it is a label: what it is worth is what the hold of that sum in a sandbox is worth. -/
noncomputable def Tryz.pinned : Pinned := { name := "ytiflmkicnkbeaaagreatdoor", sum := "15ceb9ec900e3a046aa3445b105929afdce63459a1e6575000282f787bb44f88", checked := Tryz.checked }
namespace Rows
def none {H : Type} : Left H := { results := [], args := [] }

/- WHAT THE LISTED PACKAGE-LEVEL VARIABLES READ AS WHEN THE CALL BEGINS. Each datum BY PROGRAM (the guide's laid-datum.mjs) off the statement by which the dump's own 'gosem.cut.vars' lays the variable. In a bare row this is a premise. The card (YtiflmkicnkbeaaaGreatDoorCards.lean) ties it to the program's text. -/
def laid_math_bits_deBruijn64tab {H : Type} : DataW H := .agg [.lit (.int .u8 0), .lit (.int .u8 1), .lit (.int .u8 56), .lit (.int .u8 2), .lit (.int .u8 57), .lit (.int .u8 49), .lit (.int .u8 28), .lit (.int .u8 3), .lit (.int .u8 61), .lit (.int .u8 58), .lit (.int .u8 42), .lit (.int .u8 50), .lit (.int .u8 38), .lit (.int .u8 29), .lit (.int .u8 17), .lit (.int .u8 4), .lit (.int .u8 62), .lit (.int .u8 47), .lit (.int .u8 59), .lit (.int .u8 36), .lit (.int .u8 45), .lit (.int .u8 43), .lit (.int .u8 51), .lit (.int .u8 22), .lit (.int .u8 53), .lit (.int .u8 39), .lit (.int .u8 33), .lit (.int .u8 30), .lit (.int .u8 24), .lit (.int .u8 18), .lit (.int .u8 12), .lit (.int .u8 5), .lit (.int .u8 63), .lit (.int .u8 55), .lit (.int .u8 48), .lit (.int .u8 27), .lit (.int .u8 60), .lit (.int .u8 41), .lit (.int .u8 37), .lit (.int .u8 16), .lit (.int .u8 46), .lit (.int .u8 35), .lit (.int .u8 44), .lit (.int .u8 21), .lit (.int .u8 52), .lit (.int .u8 32), .lit (.int .u8 23), .lit (.int .u8 11), .lit (.int .u8 54), .lit (.int .u8 26), .lit (.int .u8 40), .lit (.int .u8 15), .lit (.int .u8 34), .lit (.int .u8 20), .lit (.int .u8 31), .lit (.int .u8 10), .lit (.int .u8 25), .lit (.int .u8 14), .lit (.int .u8 19), .lit (.int .u8 9), .lit (.int .u8 13), .lit (.int .u8 8), .lit (.int .u8 7), .lit (.int .u8 6)]
def laid_paternoster_api_ErrRange {H : Type} : DataW H := .iface "*errors.errorString" (.ptr (.agg [.lit (.string [97, 32, 110, 117, 109, 98, 101, 114, 32, 111, 117, 116, 32, 111, 102, 32, 105, 116, 115, 32, 114, 97, 110, 103, 101])]))
def laid_paternoster_api_ErrMany {H : Type} : DataW H := .iface "*errors.errorString" (.ptr (.agg [.lit (.string [116, 111, 111, 32, 109, 97, 110, 121])]))
def laid_paternoster_api_ErrPower {H : Type} : DataW H := .iface "*errors.errorString" (.ptr (.agg [.lit (.string [116, 104, 101, 32, 112, 111, 119, 101, 114, 32, 105, 115, 32, 103, 111, 110, 101])]))
def laid_paternoster_api_ErrNone {H : Type} : DataW H := .iface "*errors.errorString" (.ptr (.agg [.lit (.string [116, 104, 101, 114, 101, 32, 105, 115, 32, 110, 111, 110, 101])]))
def laid_paternoster_api_ErrKind {H : Type} : DataW H := .iface "*errors.errorString" (.ptr (.agg [.lit (.string [110, 111, 116, 32, 111, 102, 32, 116, 104, 97, 116, 32, 107, 105, 110, 100])]))
def laid_paternoster_api_ErrOrder {H : Type} : DataW H := .iface "*errors.errorString" (.ptr (.agg [.lit (.string [110, 111, 116, 32, 105, 110, 32, 116, 104, 97, 116, 32, 111, 114, 100, 101, 114])]))
def laid_paternoster_api_ErrTwice {H : Type} : DataW H := .iface "*errors.errorString" (.ptr (.agg [.lit (.string [116, 104, 101, 114, 101, 32, 105, 115, 32, 111, 110, 101])]))
def laid_paternoster_api_ErrEnd {H : Type} : DataW H := .iface "*errors.errorString" (.ptr (.agg [.lit (.string [105, 116, 32, 101, 110, 100, 115, 32, 116, 111, 111, 32, 101, 97, 114, 108, 121])]))
def laid_paternoster_api_ErrShape {H : Type} : DataW H := .iface "*errors.errorString" (.ptr (.agg [.lit (.string [110, 111, 116, 32, 97, 115, 32, 105, 116, 32, 104, 97, 115, 32, 116, 111, 32, 98, 101])]))
def laid_paternoster_api_ErrDoor {H : Type} : DataW H := .iface "*errors.errorString" (.ptr (.agg [.lit (.string [110, 111, 116, 32, 119, 105, 116, 104, 32, 116, 104, 101, 32, 100, 111, 111, 114, 32, 115, 111])]))
def laid_paternoster_api_ErrFloor {H : Type} : DataW H := .iface "*errors.errorString" (.ptr (.agg [.lit (.string [110, 111, 116, 32, 97, 116, 32, 116, 104, 97, 116, 32, 102, 108, 111, 111, 114])]))
def laid_paternoster_api_ErrWord {H : Type} : DataW H := .iface "*errors.errorString" (.ptr (.agg [.lit (.string [110, 111, 32, 115, 117, 99, 104, 32, 119, 111, 114, 100])]))
def laid_paternoster_api_ErrNumber {H : Type} : DataW H := .iface "*errors.errorString" (.ptr (.agg [.lit (.string [110, 111, 116, 32, 97, 32, 110, 117, 109, 98, 101, 114])]))

/-- 'paternosterlaw22.NodeFounds': WHATEVER THE INPUT: true; the input reads as it did. -/
def nodeFoundsSpec : ChangeSpec := { name := "nodeFounds", fn := fun _ => fun
  | [d1, d2, d3, d4] => { results := [.lit (.bool true)], args := [d1, d2, d3, d4] }
  | _ => none }
def nodeFoundsRow : OpenClaim := { program := "ytiflmkicnkbeaaagreatdoor", sum := "15ceb9ec900e3a046aa3445b105929afdce63459a1e6575000282f787bb44f88", func := "paternoster/paternosterlaw22.NodeFounds", spec := "nodeFounds", inPlace := ["internal/reflectlite.ValueOf", "internal/reflectlite.Swapper", "(internal/reflectlite.Value).Len", "slices.overlaps[paternoster/api.Entry]"], unfollowed := true, recurses := true, named := ["paternoster/api.ErrRange", "paternoster/api.ErrPower", "paternoster/api.ErrNone", "paternoster/api.ErrOrder", "math/bits.deBruijn64tab", "paternoster/api.ErrKind", "paternoster/api.ErrMany", "paternoster/api.ErrTwice"], apart := false, laid := [("math/bits.deBruijn64tab", laid_math_bits_deBruijn64tab), ("paternoster/api.ErrRange", laid_paternoster_api_ErrRange), ("paternoster/api.ErrMany", laid_paternoster_api_ErrMany), ("paternoster/api.ErrPower", laid_paternoster_api_ErrPower), ("paternoster/api.ErrNone", laid_paternoster_api_ErrNone), ("paternoster/api.ErrKind", laid_paternoster_api_ErrKind), ("paternoster/api.ErrOrder", laid_paternoster_api_ErrOrder), ("paternoster/api.ErrTwice", laid_paternoster_api_ErrTwice)] }
def NodeFoundsSaid : Prop := nodeFoundsRow.holds Tryz.pinned (OpenSpec.ofChange nodeFoundsSpec)

/-- ITS FALSE NEIGHBOUR: 'it returns false'. Refute it at one input. -/
def nodeFoundsWrong : ChangeSpec := { name := "nodeFounds", fn := fun _ => fun
  | [d1, d2, d3, d4] => { results := [.lit (.bool false)], args := [d1, d2, d3, d4] }
  | _ => none }
def NodeFoundsWrongFalsely : Prop := nodeFoundsRow.holds Tryz.pinned (OpenSpec.ofChange nodeFoundsWrong)

/-- 'paternosterlaw22.NodePresses': WHATEVER THE INPUT: true; the input reads as it did. -/
def nodePressesSpec : ChangeSpec := { name := "nodePresses", fn := fun _ => fun
  | [d1, d2] => { results := [.lit (.bool true)], args := [d1, d2] }
  | _ => none }
def nodePressesRow : OpenClaim := { program := "ytiflmkicnkbeaaagreatdoor", sum := "15ceb9ec900e3a046aa3445b105929afdce63459a1e6575000282f787bb44f88", func := "paternoster/paternosterlaw22.NodePresses", spec := "nodePresses", inPlace := ["internal/reflectlite.ValueOf", "internal/reflectlite.Swapper", "(internal/reflectlite.Value).Len", "slices.overlaps[paternoster/api.Entry]"], unfollowed := true, recurses := true, named := ["paternoster/api.ErrRange", "paternoster/api.ErrPower", "paternoster/api.ErrNone", "paternoster/api.ErrOrder", "math/bits.deBruijn64tab"], apart := false, laid := [("math/bits.deBruijn64tab", laid_math_bits_deBruijn64tab), ("paternoster/api.ErrRange", laid_paternoster_api_ErrRange), ("paternoster/api.ErrPower", laid_paternoster_api_ErrPower), ("paternoster/api.ErrNone", laid_paternoster_api_ErrNone), ("paternoster/api.ErrOrder", laid_paternoster_api_ErrOrder)] }
def NodePressesSaid : Prop := nodePressesRow.holds Tryz.pinned (OpenSpec.ofChange nodePressesSpec)

/-- ITS FALSE NEIGHBOUR: 'it returns false'. Refute it at one input. -/
def nodePressesWrong : ChangeSpec := { name := "nodePresses", fn := fun _ => fun
  | [d1, d2] => { results := [.lit (.bool false)], args := [d1, d2] }
  | _ => none }
def NodePressesWrongFalsely : Prop := nodePressesRow.holds Tryz.pinned (OpenSpec.ofChange nodePressesWrong)

/-- 'paternosterlaw22.NodePlays': WHATEVER THE INPUT: true; the input reads as it did. -/
def nodePlaysSpec : ChangeSpec := { name := "nodePlays", fn := fun _ => fun
  | [d1, d2, d3, d4] => { results := [.lit (.bool true)], args := [d1, d2, d3, d4] }
  | _ => none }
def nodePlaysRow : OpenClaim := { program := "ytiflmkicnkbeaaagreatdoor", sum := "15ceb9ec900e3a046aa3445b105929afdce63459a1e6575000282f787bb44f88", func := "paternoster/paternosterlaw22.NodePlays", spec := "nodePlays", inPlace := ["internal/reflectlite.ValueOf", "internal/reflectlite.Swapper", "(internal/reflectlite.Value).Len", "slices.overlaps[paternoster/api.Entry]"], unfollowed := true, recurses := true, named := ["paternoster/api.ErrRange", "paternoster/api.ErrPower", "paternoster/api.ErrNone", "paternoster/api.ErrOrder", "math/bits.deBruijn64tab", "paternoster/api.ErrEnd", "paternoster/api.ErrShape", "paternoster/api.ErrMany", "paternoster/api.ErrKind", "paternoster/api.ErrDoor", "paternoster/api.ErrFloor", "paternoster/api.ErrTwice", "paternoster/api.ErrWord", "paternoster/api.ErrNumber"], apart := false, laid := [("math/bits.deBruijn64tab", laid_math_bits_deBruijn64tab), ("paternoster/api.ErrEnd", laid_paternoster_api_ErrEnd), ("paternoster/api.ErrShape", laid_paternoster_api_ErrShape), ("paternoster/api.ErrRange", laid_paternoster_api_ErrRange), ("paternoster/api.ErrMany", laid_paternoster_api_ErrMany), ("paternoster/api.ErrPower", laid_paternoster_api_ErrPower), ("paternoster/api.ErrNone", laid_paternoster_api_ErrNone), ("paternoster/api.ErrKind", laid_paternoster_api_ErrKind), ("paternoster/api.ErrOrder", laid_paternoster_api_ErrOrder), ("paternoster/api.ErrDoor", laid_paternoster_api_ErrDoor), ("paternoster/api.ErrFloor", laid_paternoster_api_ErrFloor), ("paternoster/api.ErrTwice", laid_paternoster_api_ErrTwice), ("paternoster/api.ErrWord", laid_paternoster_api_ErrWord), ("paternoster/api.ErrNumber", laid_paternoster_api_ErrNumber)] }
def NodePlaysSaid : Prop := nodePlaysRow.holds Tryz.pinned (OpenSpec.ofChange nodePlaysSpec)

/-- ITS FALSE NEIGHBOUR: 'it returns false'. Refute it at one input. -/
def nodePlaysWrong : ChangeSpec := { name := "nodePlays", fn := fun _ => fun
  | [d1, d2, d3, d4] => { results := [.lit (.bool false)], args := [d1, d2, d3, d4] }
  | _ => none }
def NodePlaysWrongFalsely : Prop := nodePlaysRow.holds Tryz.pinned (OpenSpec.ofChange nodePlaysWrong)

/-- 'paternosterlaw22.NodeBoots': WHATEVER THE INPUT: true; the input reads as it did. -/
def nodeBootsSpec : ChangeSpec := { name := "nodeBoots", fn := fun _ => fun
  | [d1, d2] => { results := [.lit (.bool true)], args := [d1, d2] }
  | _ => none }
def nodeBootsRow : OpenClaim := { program := "ytiflmkicnkbeaaagreatdoor", sum := "15ceb9ec900e3a046aa3445b105929afdce63459a1e6575000282f787bb44f88", func := "paternoster/paternosterlaw22.NodeBoots", spec := "nodeBoots", inPlace := ["internal/reflectlite.ValueOf", "internal/reflectlite.Swapper", "(internal/reflectlite.Value).Len", "slices.overlaps[paternoster/api.Entry]"], unfollowed := true, recurses := true, named := ["paternoster/api.ErrRange", "paternoster/api.ErrPower", "paternoster/api.ErrNone", "paternoster/api.ErrOrder", "math/bits.deBruijn64tab", "paternoster/api.ErrEnd", "paternoster/api.ErrShape", "paternoster/api.ErrMany", "paternoster/api.ErrKind", "paternoster/api.ErrDoor", "paternoster/api.ErrFloor", "paternoster/api.ErrTwice", "paternoster/api.ErrWord", "paternoster/api.ErrNumber"], apart := false, laid := [("math/bits.deBruijn64tab", laid_math_bits_deBruijn64tab), ("paternoster/api.ErrEnd", laid_paternoster_api_ErrEnd), ("paternoster/api.ErrShape", laid_paternoster_api_ErrShape), ("paternoster/api.ErrRange", laid_paternoster_api_ErrRange), ("paternoster/api.ErrMany", laid_paternoster_api_ErrMany), ("paternoster/api.ErrPower", laid_paternoster_api_ErrPower), ("paternoster/api.ErrNone", laid_paternoster_api_ErrNone), ("paternoster/api.ErrKind", laid_paternoster_api_ErrKind), ("paternoster/api.ErrOrder", laid_paternoster_api_ErrOrder), ("paternoster/api.ErrDoor", laid_paternoster_api_ErrDoor), ("paternoster/api.ErrFloor", laid_paternoster_api_ErrFloor), ("paternoster/api.ErrTwice", laid_paternoster_api_ErrTwice), ("paternoster/api.ErrWord", laid_paternoster_api_ErrWord), ("paternoster/api.ErrNumber", laid_paternoster_api_ErrNumber)] }
def NodeBootsSaid : Prop := nodeBootsRow.holds Tryz.pinned (OpenSpec.ofChange nodeBootsSpec)

/-- ITS FALSE NEIGHBOUR: 'it returns false'. Refute it at one input. -/
def nodeBootsWrong : ChangeSpec := { name := "nodeBoots", fn := fun _ => fun
  | [d1, d2] => { results := [.lit (.bool false)], args := [d1, d2] }
  | _ => none }
def NodeBootsWrongFalsely : Prop := nodeBootsRow.holds Tryz.pinned (OpenSpec.ofChange nodeBootsWrong)

/-- 'paternosterlaw22.NodeAlone': WHATEVER THE INPUT: true; the input reads as it did. -/
def nodeAloneSpec : ChangeSpec := { name := "nodeAlone", fn := fun _ => fun
  | [d1, d2, d3] => { results := [.lit (.bool true)], args := [d1, d2, d3] }
  | _ => none }
def nodeAloneRow : OpenClaim := { program := "ytiflmkicnkbeaaagreatdoor", sum := "15ceb9ec900e3a046aa3445b105929afdce63459a1e6575000282f787bb44f88", func := "paternoster/paternosterlaw22.NodeAlone", spec := "nodeAlone", inPlace := ["internal/reflectlite.ValueOf", "internal/reflectlite.Swapper", "(internal/reflectlite.Value).Len", "slices.overlaps[paternoster/api.Entry]"], unfollowed := true, recurses := true, named := ["paternoster/api.ErrRange", "paternoster/api.ErrPower", "paternoster/api.ErrNone", "paternoster/api.ErrOrder", "math/bits.deBruijn64tab", "paternoster/api.ErrKind", "paternoster/api.ErrMany", "paternoster/api.ErrTwice"], apart := false, laid := [("math/bits.deBruijn64tab", laid_math_bits_deBruijn64tab), ("paternoster/api.ErrRange", laid_paternoster_api_ErrRange), ("paternoster/api.ErrMany", laid_paternoster_api_ErrMany), ("paternoster/api.ErrPower", laid_paternoster_api_ErrPower), ("paternoster/api.ErrNone", laid_paternoster_api_ErrNone), ("paternoster/api.ErrKind", laid_paternoster_api_ErrKind), ("paternoster/api.ErrOrder", laid_paternoster_api_ErrOrder), ("paternoster/api.ErrTwice", laid_paternoster_api_ErrTwice)] }
def NodeAloneSaid : Prop := nodeAloneRow.holds Tryz.pinned (OpenSpec.ofChange nodeAloneSpec)

/-- ITS FALSE NEIGHBOUR: 'it returns false'. Refute it at one input. -/
def nodeAloneWrong : ChangeSpec := { name := "nodeAlone", fn := fun _ => fun
  | [d1, d2, d3] => { results := [.lit (.bool false)], args := [d1, d2, d3] }
  | _ => none }
def NodeAloneWrongFalsely : Prop := nodeAloneRow.holds Tryz.pinned (OpenSpec.ofChange nodeAloneWrong)

/-- 'paternosterlaw22.NodeBeats': WHATEVER THE INPUT: true; the input reads as it did. -/
def nodeBeatsSpec : ChangeSpec := { name := "nodeBeats", fn := fun _ => fun
  | [d1, d2, d3, d4, d5] => { results := [.lit (.bool true)], args := [d1, d2, d3, d4, d5] }
  | _ => none }
def nodeBeatsRow : OpenClaim := { program := "ytiflmkicnkbeaaagreatdoor", sum := "15ceb9ec900e3a046aa3445b105929afdce63459a1e6575000282f787bb44f88", func := "paternoster/paternosterlaw22.NodeBeats", spec := "nodeBeats", inPlace := ["internal/reflectlite.ValueOf", "internal/reflectlite.Swapper", "(internal/reflectlite.Value).Len", "slices.overlaps[paternoster/api.Entry]"], unfollowed := true, recurses := true, named := ["paternoster/api.ErrRange", "paternoster/api.ErrPower", "paternoster/api.ErrNone", "paternoster/api.ErrOrder", "math/bits.deBruijn64tab", "paternoster/api.ErrKind", "paternoster/api.ErrMany", "paternoster/api.ErrTwice"], apart := false, laid := [("math/bits.deBruijn64tab", laid_math_bits_deBruijn64tab), ("paternoster/api.ErrRange", laid_paternoster_api_ErrRange), ("paternoster/api.ErrMany", laid_paternoster_api_ErrMany), ("paternoster/api.ErrPower", laid_paternoster_api_ErrPower), ("paternoster/api.ErrNone", laid_paternoster_api_ErrNone), ("paternoster/api.ErrKind", laid_paternoster_api_ErrKind), ("paternoster/api.ErrOrder", laid_paternoster_api_ErrOrder), ("paternoster/api.ErrTwice", laid_paternoster_api_ErrTwice)] }
def NodeBeatsSaid : Prop := nodeBeatsRow.holds Tryz.pinned (OpenSpec.ofChange nodeBeatsSpec)

/-- ITS FALSE NEIGHBOUR: 'it returns false'. Refute it at one input. -/
def nodeBeatsWrong : ChangeSpec := { name := "nodeBeats", fn := fun _ => fun
  | [d1, d2, d3, d4, d5] => { results := [.lit (.bool false)], args := [d1, d2, d3, d4, d5] }
  | _ => none }
def NodeBeatsWrongFalsely : Prop := nodeBeatsRow.holds Tryz.pinned (OpenSpec.ofChange nodeBeatsWrong)

/-- 'paternosterlaw22.NodeTokens': WHATEVER THE INPUT: true; the input reads as it did. -/
def nodeTokensSpec : ChangeSpec := { name := "nodeTokens", fn := fun _ => fun
  | [d1, d2, d3, d4, d5] => { results := [.lit (.bool true)], args := [d1, d2, d3, d4, d5] }
  | _ => none }
def nodeTokensRow : OpenClaim := { program := "ytiflmkicnkbeaaagreatdoor", sum := "15ceb9ec900e3a046aa3445b105929afdce63459a1e6575000282f787bb44f88", func := "paternoster/paternosterlaw22.NodeTokens", spec := "nodeTokens", inPlace := ["internal/reflectlite.ValueOf", "internal/reflectlite.Swapper", "(internal/reflectlite.Value).Len", "slices.overlaps[paternoster/api.Entry]"], unfollowed := true, recurses := true, named := ["paternoster/api.ErrRange", "paternoster/api.ErrPower", "paternoster/api.ErrNone", "paternoster/api.ErrOrder", "math/bits.deBruijn64tab", "paternoster/api.ErrKind", "paternoster/api.ErrMany", "paternoster/api.ErrTwice"], apart := false, laid := [("math/bits.deBruijn64tab", laid_math_bits_deBruijn64tab), ("paternoster/api.ErrRange", laid_paternoster_api_ErrRange), ("paternoster/api.ErrMany", laid_paternoster_api_ErrMany), ("paternoster/api.ErrPower", laid_paternoster_api_ErrPower), ("paternoster/api.ErrNone", laid_paternoster_api_ErrNone), ("paternoster/api.ErrKind", laid_paternoster_api_ErrKind), ("paternoster/api.ErrOrder", laid_paternoster_api_ErrOrder), ("paternoster/api.ErrTwice", laid_paternoster_api_ErrTwice)] }
def NodeTokensSaid : Prop := nodeTokensRow.holds Tryz.pinned (OpenSpec.ofChange nodeTokensSpec)

/-- ITS FALSE NEIGHBOUR: 'it returns false'. Refute it at one input. -/
def nodeTokensWrong : ChangeSpec := { name := "nodeTokens", fn := fun _ => fun
  | [d1, d2, d3, d4, d5] => { results := [.lit (.bool false)], args := [d1, d2, d3, d4, d5] }
  | _ => none }
def NodeTokensWrongFalsely : Prop := nodeTokensRow.holds Tryz.pinned (OpenSpec.ofChange nodeTokensWrong)

/-- 'paternosterlaw22.NodeDown': WHATEVER THE INPUT: true; the input reads as it did. -/
def nodeDownSpec : ChangeSpec := { name := "nodeDown", fn := fun _ => fun
  | [d1, d2, d3] => { results := [.lit (.bool true)], args := [d1, d2, d3] }
  | _ => none }
def nodeDownRow : OpenClaim := { program := "ytiflmkicnkbeaaagreatdoor", sum := "15ceb9ec900e3a046aa3445b105929afdce63459a1e6575000282f787bb44f88", func := "paternoster/paternosterlaw22.NodeDown", spec := "nodeDown", inPlace := ["internal/reflectlite.ValueOf", "internal/reflectlite.Swapper", "(internal/reflectlite.Value).Len", "slices.overlaps[paternoster/api.Entry]"], unfollowed := true, recurses := true, named := ["paternoster/api.ErrRange", "paternoster/api.ErrPower", "paternoster/api.ErrNone", "paternoster/api.ErrOrder", "math/bits.deBruijn64tab"], apart := false, laid := [("math/bits.deBruijn64tab", laid_math_bits_deBruijn64tab), ("paternoster/api.ErrRange", laid_paternoster_api_ErrRange), ("paternoster/api.ErrPower", laid_paternoster_api_ErrPower), ("paternoster/api.ErrNone", laid_paternoster_api_ErrNone), ("paternoster/api.ErrOrder", laid_paternoster_api_ErrOrder)] }
def NodeDownSaid : Prop := nodeDownRow.holds Tryz.pinned (OpenSpec.ofChange nodeDownSpec)

/-- ITS FALSE NEIGHBOUR: 'it returns false'. Refute it at one input. -/
def nodeDownWrong : ChangeSpec := { name := "nodeDown", fn := fun _ => fun
  | [d1, d2, d3] => { results := [.lit (.bool false)], args := [d1, d2, d3] }
  | _ => none }
def NodeDownWrongFalsely : Prop := nodeDownRow.holds Tryz.pinned (OpenSpec.ofChange nodeDownWrong)

/- THE SECOND FORM. 'bulk': how many values and letters a reading holds, each counted each time it is reached (what is shared counts as often as it is met; a slice's spare places count too). A statement '..UptoSaid' is the law's where the arguments, and the package variables that the reading takes, are together of bulk at most 1048576: NARROWER than '..Said'. Prove '..Said' where nothing that the law and all that it calls make is longer than what came in: it says more and counts as full. Else prove '..UptoSaid'. A law counts once. -/
mutual
def uptoBulk {H : Type} : DataW H → Nat
  | .lit (.string bytes) => bytes.length + 1
  | .lit _ => 1
  | .nil => 1
  | .ptr d => uptoBulk d + 1
  | .slice elems spare => uptoBulkAll elems + uptoBulkAll spare + 1
  | .agg parts => uptoBulkAll parts + 1
  | .iface _ d => uptoBulk d + 1
  | .map entries => uptoBulkEntries entries + 1
  | .held _ => 1
def uptoBulkAll {H : Type} : List (DataW H) → Nat
  | [] => 0
  | d :: r => uptoBulk d + uptoBulkAll r
def uptoBulkEntries {H : Type} : List (Lit × DataW H) → Nat
  | [] => 0
  | x :: r => uptoBulkEntry x + uptoBulkEntries r
def uptoBulkEntry {H : Type} : Lit × DataW H → Nat
  | (.string bytes, d) => bytes.length + uptoBulk d + 1
  | (_, d) => uptoBulk d + 1
 end
def uptoSmall : (H : Type) → List (DataW H) → Bool := fun _ ds => decide (uptoBulkAll ds ≤ 1048576)
def OpenSpec.upto (s : _root_.Go.ChangeSpec) : _root_.Go.OpenSpec := { _root_.Go.OpenSpec.ofChange s with cond := some uptoSmall }

/-- 'paternosterlaw22.NodeFounds', WHERE WHAT IT READS IS OF BULK AT MOST 1048576: true; the input reads as it did. -/
def nodeFoundsUptoRow : OpenClaim := { program := "ytiflmkicnkbeaaagreatdoor", sum := "15ceb9ec900e3a046aa3445b105929afdce63459a1e6575000282f787bb44f88", func := "paternoster/paternosterlaw22.NodeFounds", spec := "nodeFounds", inPlace := ["internal/reflectlite.ValueOf", "internal/reflectlite.Swapper", "(internal/reflectlite.Value).Len", "slices.overlaps[paternoster/api.Entry]"], unfollowed := true, recurses := true, named := ["paternoster/api.ErrRange", "paternoster/api.ErrPower", "paternoster/api.ErrNone", "paternoster/api.ErrOrder", "math/bits.deBruijn64tab", "paternoster/api.ErrKind", "paternoster/api.ErrMany", "paternoster/api.ErrTwice"], apart := false, laid := [("math/bits.deBruijn64tab", laid_math_bits_deBruijn64tab), ("paternoster/api.ErrRange", laid_paternoster_api_ErrRange), ("paternoster/api.ErrMany", laid_paternoster_api_ErrMany), ("paternoster/api.ErrPower", laid_paternoster_api_ErrPower), ("paternoster/api.ErrNone", laid_paternoster_api_ErrNone), ("paternoster/api.ErrKind", laid_paternoster_api_ErrKind), ("paternoster/api.ErrOrder", laid_paternoster_api_ErrOrder), ("paternoster/api.ErrTwice", laid_paternoster_api_ErrTwice)], narrowed := true }
def NodeFoundsUptoSaid : Prop := nodeFoundsUptoRow.holds Tryz.pinned (OpenSpec.upto nodeFoundsSpec)

/-- 'paternosterlaw22.NodePresses', WHERE WHAT IT READS IS OF BULK AT MOST 1048576: true; the input reads as it did. -/
def nodePressesUptoRow : OpenClaim := { program := "ytiflmkicnkbeaaagreatdoor", sum := "15ceb9ec900e3a046aa3445b105929afdce63459a1e6575000282f787bb44f88", func := "paternoster/paternosterlaw22.NodePresses", spec := "nodePresses", inPlace := ["internal/reflectlite.ValueOf", "internal/reflectlite.Swapper", "(internal/reflectlite.Value).Len", "slices.overlaps[paternoster/api.Entry]"], unfollowed := true, recurses := true, named := ["paternoster/api.ErrRange", "paternoster/api.ErrPower", "paternoster/api.ErrNone", "paternoster/api.ErrOrder", "math/bits.deBruijn64tab"], apart := false, laid := [("math/bits.deBruijn64tab", laid_math_bits_deBruijn64tab), ("paternoster/api.ErrRange", laid_paternoster_api_ErrRange), ("paternoster/api.ErrPower", laid_paternoster_api_ErrPower), ("paternoster/api.ErrNone", laid_paternoster_api_ErrNone), ("paternoster/api.ErrOrder", laid_paternoster_api_ErrOrder)], narrowed := true }
def NodePressesUptoSaid : Prop := nodePressesUptoRow.holds Tryz.pinned (OpenSpec.upto nodePressesSpec)

/-- 'paternosterlaw22.NodePlays', WHERE WHAT IT READS IS OF BULK AT MOST 1048576: true; the input reads as it did. -/
def nodePlaysUptoRow : OpenClaim := { program := "ytiflmkicnkbeaaagreatdoor", sum := "15ceb9ec900e3a046aa3445b105929afdce63459a1e6575000282f787bb44f88", func := "paternoster/paternosterlaw22.NodePlays", spec := "nodePlays", inPlace := ["internal/reflectlite.ValueOf", "internal/reflectlite.Swapper", "(internal/reflectlite.Value).Len", "slices.overlaps[paternoster/api.Entry]"], unfollowed := true, recurses := true, named := ["paternoster/api.ErrRange", "paternoster/api.ErrPower", "paternoster/api.ErrNone", "paternoster/api.ErrOrder", "math/bits.deBruijn64tab", "paternoster/api.ErrEnd", "paternoster/api.ErrShape", "paternoster/api.ErrMany", "paternoster/api.ErrKind", "paternoster/api.ErrDoor", "paternoster/api.ErrFloor", "paternoster/api.ErrTwice", "paternoster/api.ErrWord", "paternoster/api.ErrNumber"], apart := false, laid := [("math/bits.deBruijn64tab", laid_math_bits_deBruijn64tab), ("paternoster/api.ErrEnd", laid_paternoster_api_ErrEnd), ("paternoster/api.ErrShape", laid_paternoster_api_ErrShape), ("paternoster/api.ErrRange", laid_paternoster_api_ErrRange), ("paternoster/api.ErrMany", laid_paternoster_api_ErrMany), ("paternoster/api.ErrPower", laid_paternoster_api_ErrPower), ("paternoster/api.ErrNone", laid_paternoster_api_ErrNone), ("paternoster/api.ErrKind", laid_paternoster_api_ErrKind), ("paternoster/api.ErrOrder", laid_paternoster_api_ErrOrder), ("paternoster/api.ErrDoor", laid_paternoster_api_ErrDoor), ("paternoster/api.ErrFloor", laid_paternoster_api_ErrFloor), ("paternoster/api.ErrTwice", laid_paternoster_api_ErrTwice), ("paternoster/api.ErrWord", laid_paternoster_api_ErrWord), ("paternoster/api.ErrNumber", laid_paternoster_api_ErrNumber)], narrowed := true }
def NodePlaysUptoSaid : Prop := nodePlaysUptoRow.holds Tryz.pinned (OpenSpec.upto nodePlaysSpec)

/-- 'paternosterlaw22.NodeBoots', WHERE WHAT IT READS IS OF BULK AT MOST 1048576: true; the input reads as it did. -/
def nodeBootsUptoRow : OpenClaim := { program := "ytiflmkicnkbeaaagreatdoor", sum := "15ceb9ec900e3a046aa3445b105929afdce63459a1e6575000282f787bb44f88", func := "paternoster/paternosterlaw22.NodeBoots", spec := "nodeBoots", inPlace := ["internal/reflectlite.ValueOf", "internal/reflectlite.Swapper", "(internal/reflectlite.Value).Len", "slices.overlaps[paternoster/api.Entry]"], unfollowed := true, recurses := true, named := ["paternoster/api.ErrRange", "paternoster/api.ErrPower", "paternoster/api.ErrNone", "paternoster/api.ErrOrder", "math/bits.deBruijn64tab", "paternoster/api.ErrEnd", "paternoster/api.ErrShape", "paternoster/api.ErrMany", "paternoster/api.ErrKind", "paternoster/api.ErrDoor", "paternoster/api.ErrFloor", "paternoster/api.ErrTwice", "paternoster/api.ErrWord", "paternoster/api.ErrNumber"], apart := false, laid := [("math/bits.deBruijn64tab", laid_math_bits_deBruijn64tab), ("paternoster/api.ErrEnd", laid_paternoster_api_ErrEnd), ("paternoster/api.ErrShape", laid_paternoster_api_ErrShape), ("paternoster/api.ErrRange", laid_paternoster_api_ErrRange), ("paternoster/api.ErrMany", laid_paternoster_api_ErrMany), ("paternoster/api.ErrPower", laid_paternoster_api_ErrPower), ("paternoster/api.ErrNone", laid_paternoster_api_ErrNone), ("paternoster/api.ErrKind", laid_paternoster_api_ErrKind), ("paternoster/api.ErrOrder", laid_paternoster_api_ErrOrder), ("paternoster/api.ErrDoor", laid_paternoster_api_ErrDoor), ("paternoster/api.ErrFloor", laid_paternoster_api_ErrFloor), ("paternoster/api.ErrTwice", laid_paternoster_api_ErrTwice), ("paternoster/api.ErrWord", laid_paternoster_api_ErrWord), ("paternoster/api.ErrNumber", laid_paternoster_api_ErrNumber)], narrowed := true }
def NodeBootsUptoSaid : Prop := nodeBootsUptoRow.holds Tryz.pinned (OpenSpec.upto nodeBootsSpec)

/-- 'paternosterlaw22.NodeAlone', WHERE WHAT IT READS IS OF BULK AT MOST 1048576: true; the input reads as it did. -/
def nodeAloneUptoRow : OpenClaim := { program := "ytiflmkicnkbeaaagreatdoor", sum := "15ceb9ec900e3a046aa3445b105929afdce63459a1e6575000282f787bb44f88", func := "paternoster/paternosterlaw22.NodeAlone", spec := "nodeAlone", inPlace := ["internal/reflectlite.ValueOf", "internal/reflectlite.Swapper", "(internal/reflectlite.Value).Len", "slices.overlaps[paternoster/api.Entry]"], unfollowed := true, recurses := true, named := ["paternoster/api.ErrRange", "paternoster/api.ErrPower", "paternoster/api.ErrNone", "paternoster/api.ErrOrder", "math/bits.deBruijn64tab", "paternoster/api.ErrKind", "paternoster/api.ErrMany", "paternoster/api.ErrTwice"], apart := false, laid := [("math/bits.deBruijn64tab", laid_math_bits_deBruijn64tab), ("paternoster/api.ErrRange", laid_paternoster_api_ErrRange), ("paternoster/api.ErrMany", laid_paternoster_api_ErrMany), ("paternoster/api.ErrPower", laid_paternoster_api_ErrPower), ("paternoster/api.ErrNone", laid_paternoster_api_ErrNone), ("paternoster/api.ErrKind", laid_paternoster_api_ErrKind), ("paternoster/api.ErrOrder", laid_paternoster_api_ErrOrder), ("paternoster/api.ErrTwice", laid_paternoster_api_ErrTwice)], narrowed := true }
def NodeAloneUptoSaid : Prop := nodeAloneUptoRow.holds Tryz.pinned (OpenSpec.upto nodeAloneSpec)

/-- 'paternosterlaw22.NodeBeats', WHERE WHAT IT READS IS OF BULK AT MOST 1048576: true; the input reads as it did. -/
def nodeBeatsUptoRow : OpenClaim := { program := "ytiflmkicnkbeaaagreatdoor", sum := "15ceb9ec900e3a046aa3445b105929afdce63459a1e6575000282f787bb44f88", func := "paternoster/paternosterlaw22.NodeBeats", spec := "nodeBeats", inPlace := ["internal/reflectlite.ValueOf", "internal/reflectlite.Swapper", "(internal/reflectlite.Value).Len", "slices.overlaps[paternoster/api.Entry]"], unfollowed := true, recurses := true, named := ["paternoster/api.ErrRange", "paternoster/api.ErrPower", "paternoster/api.ErrNone", "paternoster/api.ErrOrder", "math/bits.deBruijn64tab", "paternoster/api.ErrKind", "paternoster/api.ErrMany", "paternoster/api.ErrTwice"], apart := false, laid := [("math/bits.deBruijn64tab", laid_math_bits_deBruijn64tab), ("paternoster/api.ErrRange", laid_paternoster_api_ErrRange), ("paternoster/api.ErrMany", laid_paternoster_api_ErrMany), ("paternoster/api.ErrPower", laid_paternoster_api_ErrPower), ("paternoster/api.ErrNone", laid_paternoster_api_ErrNone), ("paternoster/api.ErrKind", laid_paternoster_api_ErrKind), ("paternoster/api.ErrOrder", laid_paternoster_api_ErrOrder), ("paternoster/api.ErrTwice", laid_paternoster_api_ErrTwice)], narrowed := true }
def NodeBeatsUptoSaid : Prop := nodeBeatsUptoRow.holds Tryz.pinned (OpenSpec.upto nodeBeatsSpec)

/-- 'paternosterlaw22.NodeTokens', WHERE WHAT IT READS IS OF BULK AT MOST 1048576: true; the input reads as it did. -/
def nodeTokensUptoRow : OpenClaim := { program := "ytiflmkicnkbeaaagreatdoor", sum := "15ceb9ec900e3a046aa3445b105929afdce63459a1e6575000282f787bb44f88", func := "paternoster/paternosterlaw22.NodeTokens", spec := "nodeTokens", inPlace := ["internal/reflectlite.ValueOf", "internal/reflectlite.Swapper", "(internal/reflectlite.Value).Len", "slices.overlaps[paternoster/api.Entry]"], unfollowed := true, recurses := true, named := ["paternoster/api.ErrRange", "paternoster/api.ErrPower", "paternoster/api.ErrNone", "paternoster/api.ErrOrder", "math/bits.deBruijn64tab", "paternoster/api.ErrKind", "paternoster/api.ErrMany", "paternoster/api.ErrTwice"], apart := false, laid := [("math/bits.deBruijn64tab", laid_math_bits_deBruijn64tab), ("paternoster/api.ErrRange", laid_paternoster_api_ErrRange), ("paternoster/api.ErrMany", laid_paternoster_api_ErrMany), ("paternoster/api.ErrPower", laid_paternoster_api_ErrPower), ("paternoster/api.ErrNone", laid_paternoster_api_ErrNone), ("paternoster/api.ErrKind", laid_paternoster_api_ErrKind), ("paternoster/api.ErrOrder", laid_paternoster_api_ErrOrder), ("paternoster/api.ErrTwice", laid_paternoster_api_ErrTwice)], narrowed := true }
def NodeTokensUptoSaid : Prop := nodeTokensUptoRow.holds Tryz.pinned (OpenSpec.upto nodeTokensSpec)

/-- 'paternosterlaw22.NodeDown', WHERE WHAT IT READS IS OF BULK AT MOST 1048576: true; the input reads as it did. -/
def nodeDownUptoRow : OpenClaim := { program := "ytiflmkicnkbeaaagreatdoor", sum := "15ceb9ec900e3a046aa3445b105929afdce63459a1e6575000282f787bb44f88", func := "paternoster/paternosterlaw22.NodeDown", spec := "nodeDown", inPlace := ["internal/reflectlite.ValueOf", "internal/reflectlite.Swapper", "(internal/reflectlite.Value).Len", "slices.overlaps[paternoster/api.Entry]"], unfollowed := true, recurses := true, named := ["paternoster/api.ErrRange", "paternoster/api.ErrPower", "paternoster/api.ErrNone", "paternoster/api.ErrOrder", "math/bits.deBruijn64tab"], apart := false, laid := [("math/bits.deBruijn64tab", laid_math_bits_deBruijn64tab), ("paternoster/api.ErrRange", laid_paternoster_api_ErrRange), ("paternoster/api.ErrPower", laid_paternoster_api_ErrPower), ("paternoster/api.ErrNone", laid_paternoster_api_ErrNone), ("paternoster/api.ErrOrder", laid_paternoster_api_ErrOrder)], narrowed := true }
def NodeDownUptoSaid : Prop := nodeDownUptoRow.holds Tryz.pinned (OpenSpec.upto nodeDownSpec)

end Rows
end Go.Proofs.YtiflmkicnkbeaaaGreatDoor
