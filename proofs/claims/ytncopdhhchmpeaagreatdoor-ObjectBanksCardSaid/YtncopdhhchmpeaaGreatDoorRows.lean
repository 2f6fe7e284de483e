/-
  NARROWER THAN 'FOR EVERY INPUT', by the rows' own cells (each row's printed sentence says how): SysGone: laid · ObjectKinds: laid · ObjectMemory: laid · ObjectBanks: laid · ObjectJudges: laid · ObjectDomains: laid · ObjectMeters: laid.
  DERIVED. THE GIVEN ROWS OF THIS SEAT. 7 by the template 'for every input the law returns true; each argument reads behind the call as it read before'; 0 by the template 'total and deterministic' (their statements: YtncopdhhchmpeaaGreatDoorTotals.lean).
  GIVEN WITH THE SEED: the statements are not yours to turn. If you find one false, say at which input.
  Laid BY PROGRAM, IN A SANDBOX (cutbox-rows.mjs): the forced cells as the released guide's own fill.sh prints them over the translation 39f87db0d01e1606… (all of the seat's roots in one cut). By AI agents, Wed Nov 11 2026. No macro, syntax, notation, axiom, sorry.
-/
import Derived.Test.YtncopdhhchmpeaaGreatDoorChecked
import GoSem.Claim
import GoSem.ClaimJoined
import GoSem.ClaimMapViews
import Derived.JoinedTies
import Derived.KernelRfl
namespace Go.Proofs.YtncopdhhchmpeaaGreatDoor
/- THE CELL 'sum', in the pinned program and in every row, IS THE sha256 OF THE DUMP (.gsa) THAT YtncopdhhchmpeaaGreatDoorProg.lean LOADS. Nothing in Lean hashes anything: it is a label: what it is worth is what the hold of that sum in a sandbox is worth. -/
noncomputable def Tryz.pinned : Pinned := { name := "ytncopdhhchmpeaagreatdoor", sum := "39f87db0d01e160646e48e6ca5a761057108d9ddbe9c84c0f65e62a416fe632e", checked := Tryz.checked }
namespace Rows
def none {H : Type} : Left H := { results := [], args := [] }

/- WHAT THE LISTED PACKAGE-LEVEL VARIABLES READ AS WHEN THE CALL BEGINS. Each datum BY PROGRAM (the guide's laid-datum.mjs) off the statement by which the dump's own 'gosem.cut.vars' lays the variable. In a bare row this is a premise. The card (YtncopdhhchmpeaaGreatDoorCards.lean) ties it to the program's text. -/
def laid_turnkey_api_ErrShape {H : Type} : DataW H := .iface "*errors.errorString" (.ptr (.agg [.lit (.string [110, 111, 116, 32, 97, 115, 32, 105, 116, 32, 104, 97, 115, 32, 116, 111, 32, 98, 101])]))
def laid_turnkey_api_ErrRange {H : Type} : DataW H := .iface "*errors.errorString" (.ptr (.agg [.lit (.string [97, 32, 110, 117, 109, 98, 101, 114, 32, 111, 117, 116, 32, 111, 102, 32, 105, 116, 115, 32, 114, 97, 110, 103, 101])]))
def laid_turnkey_api_ErrMany {H : Type} : DataW H := .iface "*errors.errorString" (.ptr (.agg [.lit (.string [116, 111, 111, 32, 109, 97, 110, 121])]))
def laid_turnkey_api_ErrNone {H : Type} : DataW H := .iface "*errors.errorString" (.ptr (.agg [.lit (.string [116, 104, 101, 114, 101, 32, 105, 115, 32, 110, 111, 110, 101])]))
def laid_turnkey_api_ErrFull {H : Type} : DataW H := .iface "*errors.errorString" (.ptr (.agg [.lit (.string [116, 104, 101, 114, 101, 32, 105, 115, 32, 110, 111, 32, 114, 111, 111, 109])]))
def laid_turnkey_api_ErrLimit {H : Type} : DataW H := .iface "*errors.errorString" (.ptr (.agg [.lit (.string [97, 116, 32, 105, 116, 115, 32, 108, 105, 109, 105, 116])]))
def laid_turnkey_api_ErrOwn {H : Type} : DataW H := .iface "*errors.errorString" (.ptr (.agg [.lit (.string [110, 111, 116, 32, 111, 110, 101, 32, 111, 102, 32, 105, 116, 115, 32, 111, 119, 110])]))
def laid_turnkey_api_ErrState {H : Type} : DataW H := .iface "*errors.errorString" (.ptr (.agg [.lit (.string [110, 111, 116, 32, 105, 110, 32, 116, 104, 105, 115, 32, 115, 116, 97, 116, 101])]))
def laid_turnkey_api_ErrRight {H : Type} : DataW H := .iface "*errors.errorString" (.ptr (.agg [.lit (.string [105, 116, 32, 108, 97, 99, 107, 115, 32, 116, 104, 101, 32, 114, 105, 103, 104, 116])]))

/-- 'turnkeylaw21.SysGone': WHATEVER THE INPUT: true; the input reads as it did. -/
def sysGoneSpec : ChangeSpec := { name := "sysGone", fn := fun _ => fun
  | [d] => { results := [.lit (.bool true)], args := [d] }
  | _ => none }
def sysGoneRow : OpenClaim := { program := "ytncopdhhchmpeaagreatdoor", sum := "39f87db0d01e160646e48e6ca5a761057108d9ddbe9c84c0f65e62a416fe632e", func := "turnkey/turnkeylaw21.SysGone", spec := "sysGone", unfollowed := true, recurses := true, named := ["turnkey/api.ErrRange", "turnkey/api.ErrMany", "turnkey/api.ErrFull", "turnkey/api.ErrShape", "turnkey/api.ErrNone", "turnkey/api.ErrLimit", "turnkey/api.ErrOwn"], plainKeys := false, apart := false, laid := [("turnkey/api.ErrShape", laid_turnkey_api_ErrShape), ("turnkey/api.ErrRange", laid_turnkey_api_ErrRange), ("turnkey/api.ErrMany", laid_turnkey_api_ErrMany), ("turnkey/api.ErrNone", laid_turnkey_api_ErrNone), ("turnkey/api.ErrFull", laid_turnkey_api_ErrFull), ("turnkey/api.ErrLimit", laid_turnkey_api_ErrLimit), ("turnkey/api.ErrOwn", laid_turnkey_api_ErrOwn)] }
def SysGoneSaid : Prop := sysGoneRow.holds Tryz.pinned (OpenSpec.ofChange sysGoneSpec)

/-- ITS FALSE NEIGHBOUR: 'it returns false'. Refute it at one input. -/
def sysGoneWrong : ChangeSpec := { name := "sysGone", fn := fun _ => fun
  | [d] => { results := [.lit (.bool false)], args := [d] }
  | _ => none }
def SysGoneWrongFalsely : Prop := sysGoneRow.holds Tryz.pinned (OpenSpec.ofChange sysGoneWrong)

/-- 'turnkeylaw22.ObjectKinds': WHATEVER THE INPUT: true; the input reads as it did. -/
def objectKindsSpec : ChangeSpec := { name := "objectKinds", fn := fun _ => fun
  | [d1, d2, d3] => { results := [.lit (.bool true)], args := [d1, d2, d3] }
  | _ => none }
def objectKindsRow : OpenClaim := { program := "ytncopdhhchmpeaagreatdoor", sum := "39f87db0d01e160646e48e6ca5a761057108d9ddbe9c84c0f65e62a416fe632e", func := "turnkey/turnkeylaw22.ObjectKinds", spec := "objectKinds", unfollowed := true, recurses := true, named := ["turnkey/api.ErrRange", "turnkey/api.ErrShape", "turnkey/api.ErrNone", "turnkey/api.ErrRight", "turnkey/api.ErrLimit", "turnkey/api.ErrMany", "turnkey/api.ErrFull", "turnkey/api.ErrOwn", "turnkey/api.ErrState"], plainKeys := false, apart := false, laid := [("turnkey/api.ErrShape", laid_turnkey_api_ErrShape), ("turnkey/api.ErrRange", laid_turnkey_api_ErrRange), ("turnkey/api.ErrMany", laid_turnkey_api_ErrMany), ("turnkey/api.ErrNone", laid_turnkey_api_ErrNone), ("turnkey/api.ErrFull", laid_turnkey_api_ErrFull), ("turnkey/api.ErrLimit", laid_turnkey_api_ErrLimit), ("turnkey/api.ErrOwn", laid_turnkey_api_ErrOwn), ("turnkey/api.ErrState", laid_turnkey_api_ErrState), ("turnkey/api.ErrRight", laid_turnkey_api_ErrRight)] }
def ObjectKindsSaid : Prop := objectKindsRow.holds Tryz.pinned (OpenSpec.ofChange objectKindsSpec)

/-- ITS FALSE NEIGHBOUR: 'it returns false'. Refute it at one input. -/
def objectKindsWrong : ChangeSpec := { name := "objectKinds", fn := fun _ => fun
  | [d1, d2, d3] => { results := [.lit (.bool false)], args := [d1, d2, d3] }
  | _ => none }
def ObjectKindsWrongFalsely : Prop := objectKindsRow.holds Tryz.pinned (OpenSpec.ofChange objectKindsWrong)

/-- 'turnkeylaw22.ObjectMemory': WHATEVER THE INPUT: true; the input reads as it did. -/
def objectMemorySpec : ChangeSpec := { name := "objectMemory", fn := fun _ => fun
  | [d1, d2, d3] => { results := [.lit (.bool true)], args := [d1, d2, d3] }
  | _ => none }
def objectMemoryRow : OpenClaim := { program := "ytncopdhhchmpeaagreatdoor", sum := "39f87db0d01e160646e48e6ca5a761057108d9ddbe9c84c0f65e62a416fe632e", func := "turnkey/turnkeylaw22.ObjectMemory", spec := "objectMemory", unfollowed := true, recurses := true, named := ["turnkey/api.ErrRange", "turnkey/api.ErrShape", "turnkey/api.ErrNone", "turnkey/api.ErrRight", "turnkey/api.ErrLimit", "turnkey/api.ErrMany", "turnkey/api.ErrFull", "turnkey/api.ErrOwn", "turnkey/api.ErrState"], plainKeys := false, apart := false, laid := [("turnkey/api.ErrShape", laid_turnkey_api_ErrShape), ("turnkey/api.ErrRange", laid_turnkey_api_ErrRange), ("turnkey/api.ErrMany", laid_turnkey_api_ErrMany), ("turnkey/api.ErrNone", laid_turnkey_api_ErrNone), ("turnkey/api.ErrFull", laid_turnkey_api_ErrFull), ("turnkey/api.ErrLimit", laid_turnkey_api_ErrLimit), ("turnkey/api.ErrOwn", laid_turnkey_api_ErrOwn), ("turnkey/api.ErrState", laid_turnkey_api_ErrState), ("turnkey/api.ErrRight", laid_turnkey_api_ErrRight)] }
def ObjectMemorySaid : Prop := objectMemoryRow.holds Tryz.pinned (OpenSpec.ofChange objectMemorySpec)

/-- ITS FALSE NEIGHBOUR: 'it returns false'. Refute it at one input. -/
def objectMemoryWrong : ChangeSpec := { name := "objectMemory", fn := fun _ => fun
  | [d1, d2, d3] => { results := [.lit (.bool false)], args := [d1, d2, d3] }
  | _ => none }
def ObjectMemoryWrongFalsely : Prop := objectMemoryRow.holds Tryz.pinned (OpenSpec.ofChange objectMemoryWrong)

/-- 'turnkeylaw22.ObjectBanks': WHATEVER THE INPUT: true; the input reads as it did. -/
def objectBanksSpec : ChangeSpec := { name := "objectBanks", fn := fun _ => fun
  | [d1, d2] => { results := [.lit (.bool true)], args := [d1, d2] }
  | _ => none }
def objectBanksRow : OpenClaim := { program := "ytncopdhhchmpeaagreatdoor", sum := "39f87db0d01e160646e48e6ca5a761057108d9ddbe9c84c0f65e62a416fe632e", func := "turnkey/turnkeylaw22.ObjectBanks", spec := "objectBanks", unfollowed := true, recurses := true, named := ["turnkey/api.ErrRange", "turnkey/api.ErrShape", "turnkey/api.ErrNone", "turnkey/api.ErrRight", "turnkey/api.ErrLimit", "turnkey/api.ErrMany", "turnkey/api.ErrFull", "turnkey/api.ErrOwn", "turnkey/api.ErrState"], plainKeys := false, apart := false, laid := [("turnkey/api.ErrShape", laid_turnkey_api_ErrShape), ("turnkey/api.ErrRange", laid_turnkey_api_ErrRange), ("turnkey/api.ErrMany", laid_turnkey_api_ErrMany), ("turnkey/api.ErrNone", laid_turnkey_api_ErrNone), ("turnkey/api.ErrFull", laid_turnkey_api_ErrFull), ("turnkey/api.ErrLimit", laid_turnkey_api_ErrLimit), ("turnkey/api.ErrOwn", laid_turnkey_api_ErrOwn), ("turnkey/api.ErrState", laid_turnkey_api_ErrState), ("turnkey/api.ErrRight", laid_turnkey_api_ErrRight)] }
def ObjectBanksSaid : Prop := objectBanksRow.holds Tryz.pinned (OpenSpec.ofChange objectBanksSpec)

/-- ITS FALSE NEIGHBOUR: 'it returns false'. Refute it at one input. -/
def objectBanksWrong : ChangeSpec := { name := "objectBanks", fn := fun _ => fun
  | [d1, d2] => { results := [.lit (.bool false)], args := [d1, d2] }
  | _ => none }
def ObjectBanksWrongFalsely : Prop := objectBanksRow.holds Tryz.pinned (OpenSpec.ofChange objectBanksWrong)

/-- 'turnkeylaw22.ObjectJudges': WHATEVER THE INPUT: true; the input reads as it did. -/
def objectJudgesSpec : ChangeSpec := { name := "objectJudges", fn := fun _ => fun
  | [d1, d2] => { results := [.lit (.bool true)], args := [d1, d2] }
  | _ => none }
def objectJudgesRow : OpenClaim := { program := "ytncopdhhchmpeaagreatdoor", sum := "39f87db0d01e160646e48e6ca5a761057108d9ddbe9c84c0f65e62a416fe632e", func := "turnkey/turnkeylaw22.ObjectJudges", spec := "objectJudges", unfollowed := true, recurses := true, named := ["turnkey/api.ErrRange", "turnkey/api.ErrShape", "turnkey/api.ErrNone", "turnkey/api.ErrRight", "turnkey/api.ErrLimit", "turnkey/api.ErrMany", "turnkey/api.ErrFull", "turnkey/api.ErrOwn", "turnkey/api.ErrState"], plainKeys := false, apart := false, laid := [("turnkey/api.ErrShape", laid_turnkey_api_ErrShape), ("turnkey/api.ErrRange", laid_turnkey_api_ErrRange), ("turnkey/api.ErrMany", laid_turnkey_api_ErrMany), ("turnkey/api.ErrNone", laid_turnkey_api_ErrNone), ("turnkey/api.ErrFull", laid_turnkey_api_ErrFull), ("turnkey/api.ErrLimit", laid_turnkey_api_ErrLimit), ("turnkey/api.ErrOwn", laid_turnkey_api_ErrOwn), ("turnkey/api.ErrState", laid_turnkey_api_ErrState), ("turnkey/api.ErrRight", laid_turnkey_api_ErrRight)] }
def ObjectJudgesSaid : Prop := objectJudgesRow.holds Tryz.pinned (OpenSpec.ofChange objectJudgesSpec)

/-- ITS FALSE NEIGHBOUR: 'it returns false'. Refute it at one input. -/
def objectJudgesWrong : ChangeSpec := { name := "objectJudges", fn := fun _ => fun
  | [d1, d2] => { results := [.lit (.bool false)], args := [d1, d2] }
  | _ => none }
def ObjectJudgesWrongFalsely : Prop := objectJudgesRow.holds Tryz.pinned (OpenSpec.ofChange objectJudgesWrong)

/-- 'turnkeylaw22.ObjectDomains': WHATEVER THE INPUT: true; the input reads as it did. -/
def objectDomainsSpec : ChangeSpec := { name := "objectDomains", fn := fun _ => fun
  | [d1, d2, d3] => { results := [.lit (.bool true)], args := [d1, d2, d3] }
  | _ => none }
def objectDomainsRow : OpenClaim := { program := "ytncopdhhchmpeaagreatdoor", sum := "39f87db0d01e160646e48e6ca5a761057108d9ddbe9c84c0f65e62a416fe632e", func := "turnkey/turnkeylaw22.ObjectDomains", spec := "objectDomains", unfollowed := true, recurses := true, named := ["turnkey/api.ErrRange", "turnkey/api.ErrShape", "turnkey/api.ErrNone", "turnkey/api.ErrRight", "turnkey/api.ErrLimit", "turnkey/api.ErrMany", "turnkey/api.ErrFull", "turnkey/api.ErrOwn", "turnkey/api.ErrState"], plainKeys := false, apart := false, laid := [("turnkey/api.ErrShape", laid_turnkey_api_ErrShape), ("turnkey/api.ErrRange", laid_turnkey_api_ErrRange), ("turnkey/api.ErrMany", laid_turnkey_api_ErrMany), ("turnkey/api.ErrNone", laid_turnkey_api_ErrNone), ("turnkey/api.ErrFull", laid_turnkey_api_ErrFull), ("turnkey/api.ErrLimit", laid_turnkey_api_ErrLimit), ("turnkey/api.ErrOwn", laid_turnkey_api_ErrOwn), ("turnkey/api.ErrState", laid_turnkey_api_ErrState), ("turnkey/api.ErrRight", laid_turnkey_api_ErrRight)] }
def ObjectDomainsSaid : Prop := objectDomainsRow.holds Tryz.pinned (OpenSpec.ofChange objectDomainsSpec)

/-- ITS FALSE NEIGHBOUR: 'it returns false'. Refute it at one input. -/
def objectDomainsWrong : ChangeSpec := { name := "objectDomains", fn := fun _ => fun
  | [d1, d2, d3] => { results := [.lit (.bool false)], args := [d1, d2, d3] }
  | _ => none }
def ObjectDomainsWrongFalsely : Prop := objectDomainsRow.holds Tryz.pinned (OpenSpec.ofChange objectDomainsWrong)

/-- 'turnkeylaw22.ObjectMeters': WHATEVER THE INPUT: true; the input reads as it did. -/
def objectMetersSpec : ChangeSpec := { name := "objectMeters", fn := fun _ => fun
  | [d1, d2, d3] => { results := [.lit (.bool true)], args := [d1, d2, d3] }
  | _ => none }
def objectMetersRow : OpenClaim := { program := "ytncopdhhchmpeaagreatdoor", sum := "39f87db0d01e160646e48e6ca5a761057108d9ddbe9c84c0f65e62a416fe632e", func := "turnkey/turnkeylaw22.ObjectMeters", spec := "objectMeters", unfollowed := true, recurses := true, named := ["turnkey/api.ErrRange", "turnkey/api.ErrShape", "turnkey/api.ErrNone", "turnkey/api.ErrRight", "turnkey/api.ErrLimit", "turnkey/api.ErrMany", "turnkey/api.ErrFull", "turnkey/api.ErrOwn", "turnkey/api.ErrState"], plainKeys := false, apart := false, laid := [("turnkey/api.ErrShape", laid_turnkey_api_ErrShape), ("turnkey/api.ErrRange", laid_turnkey_api_ErrRange), ("turnkey/api.ErrMany", laid_turnkey_api_ErrMany), ("turnkey/api.ErrNone", laid_turnkey_api_ErrNone), ("turnkey/api.ErrFull", laid_turnkey_api_ErrFull), ("turnkey/api.ErrLimit", laid_turnkey_api_ErrLimit), ("turnkey/api.ErrOwn", laid_turnkey_api_ErrOwn), ("turnkey/api.ErrState", laid_turnkey_api_ErrState), ("turnkey/api.ErrRight", laid_turnkey_api_ErrRight)] }
def ObjectMetersSaid : Prop := objectMetersRow.holds Tryz.pinned (OpenSpec.ofChange objectMetersSpec)

/-- ITS FALSE NEIGHBOUR: 'it returns false'. Refute it at one input. -/
def objectMetersWrong : ChangeSpec := { name := "objectMeters", fn := fun _ => fun
  | [d1, d2, d3] => { results := [.lit (.bool false)], args := [d1, d2, d3] }
  | _ => none }
def ObjectMetersWrongFalsely : Prop := objectMetersRow.holds Tryz.pinned (OpenSpec.ofChange objectMetersWrong)

/- THE SECOND FORM. 'bulk': how many values and letters a reading holds, each counted each time it is reached (what is shared counts as often as it is met; a slice's spare places count too). A statement '..UptoSaid' is the law's where the arguments, and the package variables that the reading takes, are together of bulk at most 1048576: NARROWER than '..Said'. Prove '..Said' where nothing that the law and all that it calls make is longer than what came in: it says more and counts as full. Else prove '..UptoSaid'. A law counts once. -/
mutual
def uptoBulk {H : Type} : DataW H → Nat
  | .lit (.string bytes) => bytes.length + 1
  | .lit _ => 1
  | .nil => 1
  | .ptr d => uptoBulk d + 1
  | .slice elems spare => uptoBulkAll elems + uptoBulkAll spare + 1
  | .agg parts => uptoBulkAll parts + 1
  | .iface _ d => uptoBulk d + 1
  | .map entries => uptoBulkEntries entries + 1
  | .held _ => 1
def uptoBulkAll {H : Type} : List (DataW H) → Nat
  | [] => 0
  | d :: r => uptoBulk d + uptoBulkAll r
def uptoBulkEntries {H : Type} : List (Lit × DataW H) → Nat
  | [] => 0
  | x :: r => uptoBulkEntry x + uptoBulkEntries r
def uptoBulkEntry {H : Type} : Lit × DataW H → Nat
  | (.string bytes, d) => bytes.length + uptoBulk d + 1
  | (_, d) => uptoBulk d + 1
 end
def uptoSmall : (H : Type) → List (DataW H) → Bool := fun _ ds => decide (uptoBulkAll ds ≤ 1048576)
def OpenSpec.upto (s : _root_.Go.ChangeSpec) : _root_.Go.OpenSpec := { _root_.Go.OpenSpec.ofChange s with cond := some uptoSmall }

/-- 'turnkeylaw21.SysGone', WHERE WHAT IT READS IS OF BULK AT MOST 1048576: true; the input reads as it did. -/
def sysGoneUptoRow : OpenClaim := { program := "ytncopdhhchmpeaagreatdoor", sum := "39f87db0d01e160646e48e6ca5a761057108d9ddbe9c84c0f65e62a416fe632e", func := "turnkey/turnkeylaw21.SysGone", spec := "sysGone", unfollowed := true, recurses := true, named := ["turnkey/api.ErrRange", "turnkey/api.ErrMany", "turnkey/api.ErrFull", "turnkey/api.ErrShape", "turnkey/api.ErrNone", "turnkey/api.ErrLimit", "turnkey/api.ErrOwn"], plainKeys := false, apart := false, laid := [("turnkey/api.ErrShape", laid_turnkey_api_ErrShape), ("turnkey/api.ErrRange", laid_turnkey_api_ErrRange), ("turnkey/api.ErrMany", laid_turnkey_api_ErrMany), ("turnkey/api.ErrNone", laid_turnkey_api_ErrNone), ("turnkey/api.ErrFull", laid_turnkey_api_ErrFull), ("turnkey/api.ErrLimit", laid_turnkey_api_ErrLimit), ("turnkey/api.ErrOwn", laid_turnkey_api_ErrOwn)], narrowed := true }
def SysGoneUptoSaid : Prop := sysGoneUptoRow.holds Tryz.pinned (OpenSpec.upto sysGoneSpec)

/-- 'turnkeylaw22.ObjectKinds', WHERE WHAT IT READS IS OF BULK AT MOST 1048576: true; the input reads as it did. -/
def objectKindsUptoRow : OpenClaim := { program := "ytncopdhhchmpeaagreatdoor", sum := "39f87db0d01e160646e48e6ca5a761057108d9ddbe9c84c0f65e62a416fe632e", func := "turnkey/turnkeylaw22.ObjectKinds", spec := "objectKinds", unfollowed := true, recurses := true, named := ["turnkey/api.ErrRange", "turnkey/api.ErrShape", "turnkey/api.ErrNone", "turnkey/api.ErrRight", "turnkey/api.ErrLimit", "turnkey/api.ErrMany", "turnkey/api.ErrFull", "turnkey/api.ErrOwn", "turnkey/api.ErrState"], plainKeys := false, apart := false, laid := [("turnkey/api.ErrShape", laid_turnkey_api_ErrShape), ("turnkey/api.ErrRange", laid_turnkey_api_ErrRange), ("turnkey/api.ErrMany", laid_turnkey_api_ErrMany), ("turnkey/api.ErrNone", laid_turnkey_api_ErrNone), ("turnkey/api.ErrFull", laid_turnkey_api_ErrFull), ("turnkey/api.ErrLimit", laid_turnkey_api_ErrLimit), ("turnkey/api.ErrOwn", laid_turnkey_api_ErrOwn), ("turnkey/api.ErrState", laid_turnkey_api_ErrState), ("turnkey/api.ErrRight", laid_turnkey_api_ErrRight)], narrowed := true }
def ObjectKindsUptoSaid : Prop := objectKindsUptoRow.holds Tryz.pinned (OpenSpec.upto objectKindsSpec)

/-- 'turnkeylaw22.ObjectMemory', WHERE WHAT IT READS IS OF BULK AT MOST 1048576: true; the input reads as it did. -/
def objectMemoryUptoRow : OpenClaim := { program := "ytncopdhhchmpeaagreatdoor", sum := "39f87db0d01e160646e48e6ca5a761057108d9ddbe9c84c0f65e62a416fe632e", func := "turnkey/turnkeylaw22.ObjectMemory", spec := "objectMemory", unfollowed := true, recurses := true, named := ["turnkey/api.ErrRange", "turnkey/api.ErrShape", "turnkey/api.ErrNone", "turnkey/api.ErrRight", "turnkey/api.ErrLimit", "turnkey/api.ErrMany", "turnkey/api.ErrFull", "turnkey/api.ErrOwn", "turnkey/api.ErrState"], plainKeys := false, apart := false, laid := [("turnkey/api.ErrShape", laid_turnkey_api_ErrShape), ("turnkey/api.ErrRange", laid_turnkey_api_ErrRange), ("turnkey/api.ErrMany", laid_turnkey_api_ErrMany), ("turnkey/api.ErrNone", laid_turnkey_api_ErrNone), ("turnkey/api.ErrFull", laid_turnkey_api_ErrFull), ("turnkey/api.ErrLimit", laid_turnkey_api_ErrLimit), ("turnkey/api.ErrOwn", laid_turnkey_api_ErrOwn), ("turnkey/api.ErrState", laid_turnkey_api_ErrState), ("turnkey/api.ErrRight", laid_turnkey_api_ErrRight)], narrowed := true }
def ObjectMemoryUptoSaid : Prop := objectMemoryUptoRow.holds Tryz.pinned (OpenSpec.upto objectMemorySpec)

/-- 'turnkeylaw22.ObjectBanks', WHERE WHAT IT READS IS OF BULK AT MOST 1048576: true; the input reads as it did. -/
def objectBanksUptoRow : OpenClaim := { program := "ytncopdhhchmpeaagreatdoor", sum := "39f87db0d01e160646e48e6ca5a761057108d9ddbe9c84c0f65e62a416fe632e", func := "turnkey/turnkeylaw22.ObjectBanks", spec := "objectBanks", unfollowed := true, recurses := true, named := ["turnkey/api.ErrRange", "turnkey/api.ErrShape", "turnkey/api.ErrNone", "turnkey/api.ErrRight", "turnkey/api.ErrLimit", "turnkey/api.ErrMany", "turnkey/api.ErrFull", "turnkey/api.ErrOwn", "turnkey/api.ErrState"], plainKeys := false, apart := false, laid := [("turnkey/api.ErrShape", laid_turnkey_api_ErrShape), ("turnkey/api.ErrRange", laid_turnkey_api_ErrRange), ("turnkey/api.ErrMany", laid_turnkey_api_ErrMany), ("turnkey/api.ErrNone", laid_turnkey_api_ErrNone), ("turnkey/api.ErrFull", laid_turnkey_api_ErrFull), ("turnkey/api.ErrLimit", laid_turnkey_api_ErrLimit), ("turnkey/api.ErrOwn", laid_turnkey_api_ErrOwn), ("turnkey/api.ErrState", laid_turnkey_api_ErrState), ("turnkey/api.ErrRight", laid_turnkey_api_ErrRight)], narrowed := true }
def ObjectBanksUptoSaid : Prop := objectBanksUptoRow.holds Tryz.pinned (OpenSpec.upto objectBanksSpec)

/-- 'turnkeylaw22.ObjectJudges', WHERE WHAT IT READS IS OF BULK AT MOST 1048576: true; the input reads as it did. -/
def objectJudgesUptoRow : OpenClaim := { program := "ytncopdhhchmpeaagreatdoor", sum := "39f87db0d01e160646e48e6ca5a761057108d9ddbe9c84c0f65e62a416fe632e", func := "turnkey/turnkeylaw22.ObjectJudges", spec := "objectJudges", unfollowed := true, recurses := true, named := ["turnkey/api.ErrRange", "turnkey/api.ErrShape", "turnkey/api.ErrNone", "turnkey/api.ErrRight", "turnkey/api.ErrLimit", "turnkey/api.ErrMany", "turnkey/api.ErrFull", "turnkey/api.ErrOwn", "turnkey/api.ErrState"], plainKeys := false, apart := false, laid := [("turnkey/api.ErrShape", laid_turnkey_api_ErrShape), ("turnkey/api.ErrRange", laid_turnkey_api_ErrRange), ("turnkey/api.ErrMany", laid_turnkey_api_ErrMany), ("turnkey/api.ErrNone", laid_turnkey_api_ErrNone), ("turnkey/api.ErrFull", laid_turnkey_api_ErrFull), ("turnkey/api.ErrLimit", laid_turnkey_api_ErrLimit), ("turnkey/api.ErrOwn", laid_turnkey_api_ErrOwn), ("turnkey/api.ErrState", laid_turnkey_api_ErrState), ("turnkey/api.ErrRight", laid_turnkey_api_ErrRight)], narrowed := true }
def ObjectJudgesUptoSaid : Prop := objectJudgesUptoRow.holds Tryz.pinned (OpenSpec.upto objectJudgesSpec)

/-- 'turnkeylaw22.ObjectDomains', WHERE WHAT IT READS IS OF BULK AT MOST 1048576: true; the input reads as it did. -/
def objectDomainsUptoRow : OpenClaim := { program := "ytncopdhhchmpeaagreatdoor", sum := "39f87db0d01e160646e48e6ca5a761057108d9ddbe9c84c0f65e62a416fe632e", func := "turnkey/turnkeylaw22.ObjectDomains", spec := "objectDomains", unfollowed := true, recurses := true, named := ["turnkey/api.ErrRange", "turnkey/api.ErrShape", "turnkey/api.ErrNone", "turnkey/api.ErrRight", "turnkey/api.ErrLimit", "turnkey/api.ErrMany", "turnkey/api.ErrFull", "turnkey/api.ErrOwn", "turnkey/api.ErrState"], plainKeys := false, apart := false, laid := [("turnkey/api.ErrShape", laid_turnkey_api_ErrShape), ("turnkey/api.ErrRange", laid_turnkey_api_ErrRange), ("turnkey/api.ErrMany", laid_turnkey_api_ErrMany), ("turnkey/api.ErrNone", laid_turnkey_api_ErrNone), ("turnkey/api.ErrFull", laid_turnkey_api_ErrFull), ("turnkey/api.ErrLimit", laid_turnkey_api_ErrLimit), ("turnkey/api.ErrOwn", laid_turnkey_api_ErrOwn), ("turnkey/api.ErrState", laid_turnkey_api_ErrState), ("turnkey/api.ErrRight", laid_turnkey_api_ErrRight)], narrowed := true }
def ObjectDomainsUptoSaid : Prop := objectDomainsUptoRow.holds Tryz.pinned (OpenSpec.upto objectDomainsSpec)

/-- 'turnkeylaw22.ObjectMeters', WHERE WHAT IT READS IS OF BULK AT MOST 1048576: true; the input reads as it did. -/
def objectMetersUptoRow : OpenClaim := { program := "ytncopdhhchmpeaagreatdoor", sum := "39f87db0d01e160646e48e6ca5a761057108d9ddbe9c84c0f65e62a416fe632e", func := "turnkey/turnkeylaw22.ObjectMeters", spec := "objectMeters", unfollowed := true, recurses := true, named := ["turnkey/api.ErrRange", "turnkey/api.ErrShape", "turnkey/api.ErrNone", "turnkey/api.ErrRight", "turnkey/api.ErrLimit", "turnkey/api.ErrMany", "turnkey/api.ErrFull", "turnkey/api.ErrOwn", "turnkey/api.ErrState"], plainKeys := false, apart := false, laid := [("turnkey/api.ErrShape", laid_turnkey_api_ErrShape), ("turnkey/api.ErrRange", laid_turnkey_api_ErrRange), ("turnkey/api.ErrMany", laid_turnkey_api_ErrMany), ("turnkey/api.ErrNone", laid_turnkey_api_ErrNone), ("turnkey/api.ErrFull", laid_turnkey_api_ErrFull), ("turnkey/api.ErrLimit", laid_turnkey_api_ErrLimit), ("turnkey/api.ErrOwn", laid_turnkey_api_ErrOwn), ("turnkey/api.ErrState", laid_turnkey_api_ErrState), ("turnkey/api.ErrRight", laid_turnkey_api_ErrRight)], narrowed := true }
def ObjectMetersUptoSaid : Prop := objectMetersUptoRow.holds Tryz.pinned (OpenSpec.upto objectMetersSpec)

end Rows
end Go.Proofs.YtncopdhhchmpeaaGreatDoor
