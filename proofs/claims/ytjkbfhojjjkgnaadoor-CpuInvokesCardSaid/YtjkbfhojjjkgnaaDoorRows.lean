/-
  NARROWER THAN 'FOR EVERY INPUT', by the rows' own cells (each row's printed sentence says how): CpuTakes: laid · CpuSums: laid · CpuStores: laid · CpuKeys: laid · CpuInvokes: laid · CpuJumps: laid · CpuFaults: laid.
  DERIVED. THE GIVEN ROWS OF THIS SEAT. 7 by the template 'for every input the law returns true; each argument reads behind the call as it read before'; 0 by the template 'total and deterministic' (their statements: YtjkbfhojjjkgnaaDoorTotals.lean).
  GIVEN WITH THE SEED: the statements are not yours to turn. If you find one false, say at which input.
  Laid BY PROGRAM, IN A SANDBOX (cutbox-rows.mjs): the forced cells as the released guide's own fill.sh prints them over the translation a2a9457c537038e1… (all of the seat's roots in one cut). By AI agents, Wed Nov 11 2026. No macro, syntax, notation, axiom, sorry.
-/
import Derived.Test.YtjkbfhojjjkgnaaDoorChecked
import GoSem.Claim
import GoSem.ClaimJoined
import GoSem.ClaimMapViews
import Derived.JoinedTies
import Derived.KernelRfl
namespace Go.Proofs.YtjkbfhojjjkgnaaDoor
/- THE CELL 'sum', in the pinned program and in every row, IS THE sha256 OF THE DUMP (.gsa) THAT YtjkbfhojjjkgnaaDoorProg.lean LOADS. Nothing in Lean hashes anything: it is a label: what it is worth is what the hold of that sum in a sandbox is worth. -/
noncomputable def Tryd.pinned : Pinned := { name := "ytjkbfhojjjkgnaadoor", sum := "a2a9457c537038e11d0690e95ac3b32db86e2badfc01ec9b8db93e550ac77d14", checked := Tryd.checked }
namespace Rows
def none {H : Type} : Left H := { results := [], args := [] }

/- WHAT THE LISTED PACKAGE-LEVEL VARIABLES READ AS WHEN THE CALL BEGINS. Each datum BY PROGRAM (the guide's laid-datum.mjs) off the statement by which the dump's own 'gosem.cut.vars' lays the variable. In a bare row this is a premise. The card (YtjkbfhojjjkgnaaDoorCards.lean) ties it to the program's text. -/
def laid_turnkey_api_ErrShape {H : Type} : DataW H := .iface "*errors.errorString" (.ptr (.agg [.lit (.string [110, 111, 116, 32, 97, 115, 32, 105, 116, 32, 104, 97, 115, 32, 116, 111, 32, 98, 101])]))
def laid_turnkey_api_ErrRange {H : Type} : DataW H := .iface "*errors.errorString" (.ptr (.agg [.lit (.string [97, 32, 110, 117, 109, 98, 101, 114, 32, 111, 117, 116, 32, 111, 102, 32, 105, 116, 115, 32, 114, 97, 110, 103, 101])]))
def laid_turnkey_api_ErrMany {H : Type} : DataW H := .iface "*errors.errorString" (.ptr (.agg [.lit (.string [116, 111, 111, 32, 109, 97, 110, 121])]))
def laid_turnkey_api_ErrFull {H : Type} : DataW H := .iface "*errors.errorString" (.ptr (.agg [.lit (.string [116, 104, 101, 114, 101, 32, 105, 115, 32, 110, 111, 32, 114, 111, 111, 109])]))
def laid_turnkey_api_ErrWord {H : Type} : DataW H := .iface "*errors.errorString" (.ptr (.agg [.lit (.string [110, 111, 32, 115, 117, 99, 104, 32, 119, 111, 114, 100])]))
def laid_turnkey_code_forms {H : Type} : DataW H := .agg [.agg [.lit (.string []), .lit (.int .i64 0), .lit (.int .i64 0), .lit (.int .i64 0), .lit (.int .i64 0)], .agg [.lit (.string [108, 105]), .lit (.int .i64 1), .lit (.int .i64 0), .lit (.int .i64 0), .lit (.int .i64 3)], .agg [.lit (.string [108, 105, 104]), .lit (.int .i64 1), .lit (.int .i64 0), .lit (.int .i64 0), .lit (.int .i64 3)], .agg [.lit (.string [97, 108, 117]), .lit (.int .i64 1), .lit (.int .i64 1), .lit (.int .i64 1), .lit (.int .i64 4)], .agg [.lit (.string [106, 109, 112]), .lit (.int .i64 0), .lit (.int .i64 0), .lit (.int .i64 0), .lit (.int .i64 3)], .agg [.lit (.string [106, 122]), .lit (.int .i64 1), .lit (.int .i64 0), .lit (.int .i64 0), .lit (.int .i64 3)], .agg [.lit (.string [108, 111, 97, 100]), .lit (.int .i64 1), .lit (.int .i64 1), .lit (.int .i64 0), .lit (.int .i64 3)], .agg [.lit (.string [115, 97, 118, 101]), .lit (.int .i64 1), .lit (.int .i64 1), .lit (.int .i64 0), .lit (.int .i64 3)], .agg [.lit (.string [107, 109, 111, 118, 101]), .lit (.int .i64 2), .lit (.int .i64 2), .lit (.int .i64 0), .lit (.int .i64 0)], .agg [.lit (.string [107, 110, 117, 109]), .lit (.int .i64 2), .lit (.int .i64 1), .lit (.int .i64 0), .lit (.int .i64 0)], .agg [.lit (.string [107, 103, 101, 116]), .lit (.int .i64 1), .lit (.int .i64 2), .lit (.int .i64 0), .lit (.int .i64 0)], .agg [.lit (.string [105, 110, 118]), .lit (.int .i64 5), .lit (.int .i64 2), .lit (.int .i64 2), .lit (.int .i64 0)], .agg [.lit (.string [121, 105, 101, 108, 100]), .lit (.int .i64 0), .lit (.int .i64 0), .lit (.int .i64 0), .lit (.int .i64 0)], .agg [.lit (.string [104, 97, 108, 116]), .lit (.int .i64 0), .lit (.int .i64 0), .lit (.int .i64 0), .lit (.int .i64 0)]]
def laid_turnkey_api_ErrEnd {H : Type} : DataW H := .iface "*errors.errorString" (.ptr (.agg [.lit (.string [105, 116, 32, 101, 110, 100, 115, 32, 116, 111, 111, 32, 101, 97, 114, 108, 121])]))
def laid_turnkey_api_ErrNone {H : Type} : DataW H := .iface "*errors.errorString" (.ptr (.agg [.lit (.string [116, 104, 101, 114, 101, 32, 105, 115, 32, 110, 111, 110, 101])]))
def laid_turnkey_api_ErrLimit {H : Type} : DataW H := .iface "*errors.errorString" (.ptr (.agg [.lit (.string [97, 116, 32, 105, 116, 115, 32, 108, 105, 109, 105, 116])]))
def laid_turnkey_api_ErrOwn {H : Type} : DataW H := .iface "*errors.errorString" (.ptr (.agg [.lit (.string [110, 111, 116, 32, 111, 110, 101, 32, 111, 102, 32, 105, 116, 115, 32, 111, 119, 110])]))
def laid_turnkey_api_ErrState {H : Type} : DataW H := .iface "*errors.errorString" (.ptr (.agg [.lit (.string [110, 111, 116, 32, 105, 110, 32, 116, 104, 105, 115, 32, 115, 116, 97, 116, 101])]))
def laid_turnkey_api_ErrRight {H : Type} : DataW H := .iface "*errors.errorString" (.ptr (.agg [.lit (.string [105, 116, 32, 108, 97, 99, 107, 115, 32, 116, 104, 101, 32, 114, 105, 103, 104, 116])]))
def laid_turnkey_api_ErrNumber {H : Type} : DataW H := .iface "*errors.errorString" (.ptr (.agg [.lit (.string [110, 111, 32, 115, 117, 99, 104, 32, 110, 117, 109, 98, 101, 114])]))

/-- 'turnkeylaw17.CpuTakes': WHATEVER THE INPUT: true; the input reads as it did. -/
def cpuTakesSpec : ChangeSpec := { name := "cpuTakes", fn := fun _ => fun
  | [d1, d2, d3, d4, d5] => { results := [.lit (.bool true)], args := [d1, d2, d3, d4, d5] }
  | _ => none }
def cpuTakesRow : OpenClaim := { program := "ytjkbfhojjjkgnaadoor", sum := "a2a9457c537038e11d0690e95ac3b32db86e2badfc01ec9b8db93e550ac77d14", func := "turnkey/turnkeylaw17.CpuTakes", spec := "cpuTakes", unfollowed := true, recurses := true, named := ["turnkey/api.ErrRange", "turnkey/api.ErrMany", "turnkey/api.ErrFull", "turnkey/api.ErrShape", "turnkey/api.ErrWord", "turnkey/code.forms"], apart := false, laid := [("turnkey/api.ErrShape", laid_turnkey_api_ErrShape), ("turnkey/api.ErrRange", laid_turnkey_api_ErrRange), ("turnkey/api.ErrMany", laid_turnkey_api_ErrMany), ("turnkey/api.ErrFull", laid_turnkey_api_ErrFull), ("turnkey/api.ErrWord", laid_turnkey_api_ErrWord), ("turnkey/code.forms", laid_turnkey_code_forms)] }
def CpuTakesSaid : Prop := cpuTakesRow.holds Tryd.pinned (OpenSpec.ofChange cpuTakesSpec)

/-- ITS FALSE NEIGHBOUR: 'it returns false'. Refute it at one input. -/
def cpuTakesWrong : ChangeSpec := { name := "cpuTakes", fn := fun _ => fun
  | [d1, d2, d3, d4, d5] => { results := [.lit (.bool false)], args := [d1, d2, d3, d4, d5] }
  | _ => none }
def CpuTakesWrongFalsely : Prop := cpuTakesRow.holds Tryd.pinned (OpenSpec.ofChange cpuTakesWrong)

/-- 'turnkeylaw17.CpuSums': WHATEVER THE INPUT: true; the input reads as it did. -/
def cpuSumsSpec : ChangeSpec := { name := "cpuSums", fn := fun _ => fun
  | [d] => { results := [.lit (.bool true)], args := [d] }
  | _ => none }
def cpuSumsRow : OpenClaim := { program := "ytjkbfhojjjkgnaadoor", sum := "a2a9457c537038e11d0690e95ac3b32db86e2badfc01ec9b8db93e550ac77d14", func := "turnkey/turnkeylaw17.CpuSums", spec := "cpuSums", unfollowed := true, recurses := true, named := ["turnkey/api.ErrRange", "turnkey/api.ErrMany", "turnkey/api.ErrFull", "turnkey/api.ErrShape", "turnkey/api.ErrWord", "turnkey/code.forms", "turnkey/api.ErrEnd", "turnkey/api.ErrNone", "turnkey/api.ErrLimit", "turnkey/api.ErrOwn", "turnkey/api.ErrState", "turnkey/api.ErrRight", "turnkey/api.ErrNumber"], apart := false, laid := [("turnkey/api.ErrEnd", laid_turnkey_api_ErrEnd), ("turnkey/api.ErrShape", laid_turnkey_api_ErrShape), ("turnkey/api.ErrRange", laid_turnkey_api_ErrRange), ("turnkey/api.ErrMany", laid_turnkey_api_ErrMany), ("turnkey/api.ErrNone", laid_turnkey_api_ErrNone), ("turnkey/api.ErrFull", laid_turnkey_api_ErrFull), ("turnkey/api.ErrLimit", laid_turnkey_api_ErrLimit), ("turnkey/api.ErrOwn", laid_turnkey_api_ErrOwn), ("turnkey/api.ErrState", laid_turnkey_api_ErrState), ("turnkey/api.ErrRight", laid_turnkey_api_ErrRight), ("turnkey/api.ErrWord", laid_turnkey_api_ErrWord), ("turnkey/api.ErrNumber", laid_turnkey_api_ErrNumber), ("turnkey/code.forms", laid_turnkey_code_forms)] }
def CpuSumsSaid : Prop := cpuSumsRow.holds Tryd.pinned (OpenSpec.ofChange cpuSumsSpec)

/-- ITS FALSE NEIGHBOUR: 'it returns false'. Refute it at one input. -/
def cpuSumsWrong : ChangeSpec := { name := "cpuSums", fn := fun _ => fun
  | [d] => { results := [.lit (.bool false)], args := [d] }
  | _ => none }
def CpuSumsWrongFalsely : Prop := cpuSumsRow.holds Tryd.pinned (OpenSpec.ofChange cpuSumsWrong)

/-- 'turnkeylaw17.CpuStores': WHATEVER THE INPUT: true; the input reads as it did. -/
def cpuStoresSpec : ChangeSpec := { name := "cpuStores", fn := fun _ => fun
  | [d1, d2, d3] => { results := [.lit (.bool true)], args := [d1, d2, d3] }
  | _ => none }
def cpuStoresRow : OpenClaim := { program := "ytjkbfhojjjkgnaadoor", sum := "a2a9457c537038e11d0690e95ac3b32db86e2badfc01ec9b8db93e550ac77d14", func := "turnkey/turnkeylaw17.CpuStores", spec := "cpuStores", unfollowed := true, recurses := true, named := ["turnkey/api.ErrRange", "turnkey/api.ErrMany", "turnkey/api.ErrFull", "turnkey/api.ErrShape", "turnkey/api.ErrWord", "turnkey/code.forms"], apart := false, laid := [("turnkey/api.ErrShape", laid_turnkey_api_ErrShape), ("turnkey/api.ErrRange", laid_turnkey_api_ErrRange), ("turnkey/api.ErrMany", laid_turnkey_api_ErrMany), ("turnkey/api.ErrFull", laid_turnkey_api_ErrFull), ("turnkey/api.ErrWord", laid_turnkey_api_ErrWord), ("turnkey/code.forms", laid_turnkey_code_forms)] }
def CpuStoresSaid : Prop := cpuStoresRow.holds Tryd.pinned (OpenSpec.ofChange cpuStoresSpec)

/-- ITS FALSE NEIGHBOUR: 'it returns false'. Refute it at one input. -/
def cpuStoresWrong : ChangeSpec := { name := "cpuStores", fn := fun _ => fun
  | [d1, d2, d3] => { results := [.lit (.bool false)], args := [d1, d2, d3] }
  | _ => none }
def CpuStoresWrongFalsely : Prop := cpuStoresRow.holds Tryd.pinned (OpenSpec.ofChange cpuStoresWrong)

/-- 'turnkeylaw17.CpuKeys': WHATEVER THE INPUT: true; the input reads as it did. -/
def cpuKeysSpec : ChangeSpec := { name := "cpuKeys", fn := fun _ => fun
  | [d1, d2, d3, d4] => { results := [.lit (.bool true)], args := [d1, d2, d3, d4] }
  | _ => none }
def cpuKeysRow : OpenClaim := { program := "ytjkbfhojjjkgnaadoor", sum := "a2a9457c537038e11d0690e95ac3b32db86e2badfc01ec9b8db93e550ac77d14", func := "turnkey/turnkeylaw17.CpuKeys", spec := "cpuKeys", unfollowed := true, recurses := true, named := ["turnkey/api.ErrRange", "turnkey/api.ErrMany", "turnkey/api.ErrFull", "turnkey/api.ErrShape", "turnkey/api.ErrWord", "turnkey/code.forms"], apart := false, laid := [("turnkey/api.ErrShape", laid_turnkey_api_ErrShape), ("turnkey/api.ErrRange", laid_turnkey_api_ErrRange), ("turnkey/api.ErrMany", laid_turnkey_api_ErrMany), ("turnkey/api.ErrFull", laid_turnkey_api_ErrFull), ("turnkey/api.ErrWord", laid_turnkey_api_ErrWord), ("turnkey/code.forms", laid_turnkey_code_forms)] }
def CpuKeysSaid : Prop := cpuKeysRow.holds Tryd.pinned (OpenSpec.ofChange cpuKeysSpec)

/-- ITS FALSE NEIGHBOUR: 'it returns false'. Refute it at one input. -/
def cpuKeysWrong : ChangeSpec := { name := "cpuKeys", fn := fun _ => fun
  | [d1, d2, d3, d4] => { results := [.lit (.bool false)], args := [d1, d2, d3, d4] }
  | _ => none }
def CpuKeysWrongFalsely : Prop := cpuKeysRow.holds Tryd.pinned (OpenSpec.ofChange cpuKeysWrong)

/-- 'turnkeylaw17.CpuInvokes': WHATEVER THE INPUT: true; the input reads as it did. -/
def cpuInvokesSpec : ChangeSpec := { name := "cpuInvokes", fn := fun _ => fun
  | [d1, d2, d3, d4] => { results := [.lit (.bool true)], args := [d1, d2, d3, d4] }
  | _ => none }
def cpuInvokesRow : OpenClaim := { program := "ytjkbfhojjjkgnaadoor", sum := "a2a9457c537038e11d0690e95ac3b32db86e2badfc01ec9b8db93e550ac77d14", func := "turnkey/turnkeylaw17.CpuInvokes", spec := "cpuInvokes", unfollowed := true, recurses := true, named := ["turnkey/api.ErrRange", "turnkey/api.ErrMany", "turnkey/api.ErrFull", "turnkey/api.ErrShape", "turnkey/api.ErrWord", "turnkey/code.forms"], apart := false, laid := [("turnkey/api.ErrShape", laid_turnkey_api_ErrShape), ("turnkey/api.ErrRange", laid_turnkey_api_ErrRange), ("turnkey/api.ErrMany", laid_turnkey_api_ErrMany), ("turnkey/api.ErrFull", laid_turnkey_api_ErrFull), ("turnkey/api.ErrWord", laid_turnkey_api_ErrWord), ("turnkey/code.forms", laid_turnkey_code_forms)] }
def CpuInvokesSaid : Prop := cpuInvokesRow.holds Tryd.pinned (OpenSpec.ofChange cpuInvokesSpec)

/-- ITS FALSE NEIGHBOUR: 'it returns false'. Refute it at one input. -/
def cpuInvokesWrong : ChangeSpec := { name := "cpuInvokes", fn := fun _ => fun
  | [d1, d2, d3, d4] => { results := [.lit (.bool false)], args := [d1, d2, d3, d4] }
  | _ => none }
def CpuInvokesWrongFalsely : Prop := cpuInvokesRow.holds Tryd.pinned (OpenSpec.ofChange cpuInvokesWrong)

/-- 'turnkeylaw17.CpuJumps': WHATEVER THE INPUT: true; the input reads as it did. -/
def cpuJumpsSpec : ChangeSpec := { name := "cpuJumps", fn := fun _ => fun
  | [d1, d2, d3] => { results := [.lit (.bool true)], args := [d1, d2, d3] }
  | _ => none }
def cpuJumpsRow : OpenClaim := { program := "ytjkbfhojjjkgnaadoor", sum := "a2a9457c537038e11d0690e95ac3b32db86e2badfc01ec9b8db93e550ac77d14", func := "turnkey/turnkeylaw17.CpuJumps", spec := "cpuJumps", unfollowed := true, recurses := true, named := ["turnkey/api.ErrRange", "turnkey/api.ErrMany", "turnkey/api.ErrFull", "turnkey/api.ErrShape", "turnkey/api.ErrWord", "turnkey/code.forms"], apart := false, laid := [("turnkey/api.ErrShape", laid_turnkey_api_ErrShape), ("turnkey/api.ErrRange", laid_turnkey_api_ErrRange), ("turnkey/api.ErrMany", laid_turnkey_api_ErrMany), ("turnkey/api.ErrFull", laid_turnkey_api_ErrFull), ("turnkey/api.ErrWord", laid_turnkey_api_ErrWord), ("turnkey/code.forms", laid_turnkey_code_forms)] }
def CpuJumpsSaid : Prop := cpuJumpsRow.holds Tryd.pinned (OpenSpec.ofChange cpuJumpsSpec)

/-- ITS FALSE NEIGHBOUR: 'it returns false'. Refute it at one input. -/
def cpuJumpsWrong : ChangeSpec := { name := "cpuJumps", fn := fun _ => fun
  | [d1, d2, d3] => { results := [.lit (.bool false)], args := [d1, d2, d3] }
  | _ => none }
def CpuJumpsWrongFalsely : Prop := cpuJumpsRow.holds Tryd.pinned (OpenSpec.ofChange cpuJumpsWrong)

/-- 'turnkeylaw17.CpuFaults': WHATEVER THE INPUT: true; the input reads as it did. -/
def cpuFaultsSpec : ChangeSpec := { name := "cpuFaults", fn := fun _ => fun
  | [d1, d2, d3] => { results := [.lit (.bool true)], args := [d1, d2, d3] }
  | _ => none }
def cpuFaultsRow : OpenClaim := { program := "ytjkbfhojjjkgnaadoor", sum := "a2a9457c537038e11d0690e95ac3b32db86e2badfc01ec9b8db93e550ac77d14", func := "turnkey/turnkeylaw17.CpuFaults", spec := "cpuFaults", unfollowed := true, recurses := true, named := ["turnkey/api.ErrRange", "turnkey/api.ErrMany", "turnkey/api.ErrFull", "turnkey/api.ErrShape", "turnkey/api.ErrWord", "turnkey/code.forms"], apart := false, laid := [("turnkey/api.ErrShape", laid_turnkey_api_ErrShape), ("turnkey/api.ErrRange", laid_turnkey_api_ErrRange), ("turnkey/api.ErrMany", laid_turnkey_api_ErrMany), ("turnkey/api.ErrFull", laid_turnkey_api_ErrFull), ("turnkey/api.ErrWord", laid_turnkey_api_ErrWord), ("turnkey/code.forms", laid_turnkey_code_forms)] }
def CpuFaultsSaid : Prop := cpuFaultsRow.holds Tryd.pinned (OpenSpec.ofChange cpuFaultsSpec)

/-- ITS FALSE NEIGHBOUR: 'it returns false'. Refute it at one input. -/
def cpuFaultsWrong : ChangeSpec := { name := "cpuFaults", fn := fun _ => fun
  | [d1, d2, d3] => { results := [.lit (.bool false)], args := [d1, d2, d3] }
  | _ => none }
def CpuFaultsWrongFalsely : Prop := cpuFaultsRow.holds Tryd.pinned (OpenSpec.ofChange cpuFaultsWrong)

/- THE SECOND FORM. 'bulk': how many values and letters a reading holds, each counted each time it is reached (what is shared counts as often as it is met; a slice's spare places count too). A statement '..UptoSaid' is the law's where the arguments, and the package variables that the reading takes, are together of bulk at most 1048576: NARROWER than '..Said'. Prove '..Said' where nothing that the law and all that it calls make is longer than what came in: it says more and counts as full. Else prove '..UptoSaid'. A law counts once. -/
mutual
def uptoBulk {H : Type} : DataW H → Nat
  | .lit (.string bytes) => bytes.length + 1
  | .lit _ => 1
  | .nil => 1
  | .ptr d => uptoBulk d + 1
  | .slice elems spare => uptoBulkAll elems + uptoBulkAll spare + 1
  | .agg parts => uptoBulkAll parts + 1
  | .iface _ d => uptoBulk d + 1
  | .map entries => uptoBulkEntries entries + 1
  | .held _ => 1
def uptoBulkAll {H : Type} : List (DataW H) → Nat
  | [] => 0
  | d :: r => uptoBulk d + uptoBulkAll r
def uptoBulkEntries {H : Type} : List (Lit × DataW H) → Nat
  | [] => 0
  | x :: r => uptoBulkEntry x + uptoBulkEntries r
def uptoBulkEntry {H : Type} : Lit × DataW H → Nat
  | (.string bytes, d) => bytes.length + uptoBulk d + 1
  | (_, d) => uptoBulk d + 1
 end
def uptoSmall : (H : Type) → List (DataW H) → Bool := fun _ ds => decide (uptoBulkAll ds ≤ 1048576)
def OpenSpec.upto (s : _root_.Go.ChangeSpec) : _root_.Go.OpenSpec := { _root_.Go.OpenSpec.ofChange s with cond := some uptoSmall }

/-- 'turnkeylaw17.CpuTakes', WHERE WHAT IT READS IS OF BULK AT MOST 1048576: true; the input reads as it did. -/
def cpuTakesUptoRow : OpenClaim := { program := "ytjkbfhojjjkgnaadoor", sum := "a2a9457c537038e11d0690e95ac3b32db86e2badfc01ec9b8db93e550ac77d14", func := "turnkey/turnkeylaw17.CpuTakes", spec := "cpuTakes", unfollowed := true, recurses := true, named := ["turnkey/api.ErrRange", "turnkey/api.ErrMany", "turnkey/api.ErrFull", "turnkey/api.ErrShape", "turnkey/api.ErrWord", "turnkey/code.forms"], apart := false, laid := [("turnkey/api.ErrShape", laid_turnkey_api_ErrShape), ("turnkey/api.ErrRange", laid_turnkey_api_ErrRange), ("turnkey/api.ErrMany", laid_turnkey_api_ErrMany), ("turnkey/api.ErrFull", laid_turnkey_api_ErrFull), ("turnkey/api.ErrWord", laid_turnkey_api_ErrWord), ("turnkey/code.forms", laid_turnkey_code_forms)], narrowed := true }
def CpuTakesUptoSaid : Prop := cpuTakesUptoRow.holds Tryd.pinned (OpenSpec.upto cpuTakesSpec)

/-- 'turnkeylaw17.CpuSums', WHERE WHAT IT READS IS OF BULK AT MOST 1048576: true; the input reads as it did. -/
def cpuSumsUptoRow : OpenClaim := { program := "ytjkbfhojjjkgnaadoor", sum := "a2a9457c537038e11d0690e95ac3b32db86e2badfc01ec9b8db93e550ac77d14", func := "turnkey/turnkeylaw17.CpuSums", spec := "cpuSums", unfollowed := true, recurses := true, named := ["turnkey/api.ErrRange", "turnkey/api.ErrMany", "turnkey/api.ErrFull", "turnkey/api.ErrShape", "turnkey/api.ErrWord", "turnkey/code.forms", "turnkey/api.ErrEnd", "turnkey/api.ErrNone", "turnkey/api.ErrLimit", "turnkey/api.ErrOwn", "turnkey/api.ErrState", "turnkey/api.ErrRight", "turnkey/api.ErrNumber"], apart := false, laid := [("turnkey/api.ErrEnd", laid_turnkey_api_ErrEnd), ("turnkey/api.ErrShape", laid_turnkey_api_ErrShape), ("turnkey/api.ErrRange", laid_turnkey_api_ErrRange), ("turnkey/api.ErrMany", laid_turnkey_api_ErrMany), ("turnkey/api.ErrNone", laid_turnkey_api_ErrNone), ("turnkey/api.ErrFull", laid_turnkey_api_ErrFull), ("turnkey/api.ErrLimit", laid_turnkey_api_ErrLimit), ("turnkey/api.ErrOwn", laid_turnkey_api_ErrOwn), ("turnkey/api.ErrState", laid_turnkey_api_ErrState), ("turnkey/api.ErrRight", laid_turnkey_api_ErrRight), ("turnkey/api.ErrWord", laid_turnkey_api_ErrWord), ("turnkey/api.ErrNumber", laid_turnkey_api_ErrNumber), ("turnkey/code.forms", laid_turnkey_code_forms)], narrowed := true }
def CpuSumsUptoSaid : Prop := cpuSumsUptoRow.holds Tryd.pinned (OpenSpec.upto cpuSumsSpec)

/-- 'turnkeylaw17.CpuStores', WHERE WHAT IT READS IS OF BULK AT MOST 1048576: true; the input reads as it did. -/
def cpuStoresUptoRow : OpenClaim := { program := "ytjkbfhojjjkgnaadoor", sum := "a2a9457c537038e11d0690e95ac3b32db86e2badfc01ec9b8db93e550ac77d14", func := "turnkey/turnkeylaw17.CpuStores", spec := "cpuStores", unfollowed := true, recurses := true, named := ["turnkey/api.ErrRange", "turnkey/api.ErrMany", "turnkey/api.ErrFull", "turnkey/api.ErrShape", "turnkey/api.ErrWord", "turnkey/code.forms"], apart := false, laid := [("turnkey/api.ErrShape", laid_turnkey_api_ErrShape), ("turnkey/api.ErrRange", laid_turnkey_api_ErrRange), ("turnkey/api.ErrMany", laid_turnkey_api_ErrMany), ("turnkey/api.ErrFull", laid_turnkey_api_ErrFull), ("turnkey/api.ErrWord", laid_turnkey_api_ErrWord), ("turnkey/code.forms", laid_turnkey_code_forms)], narrowed := true }
def CpuStoresUptoSaid : Prop := cpuStoresUptoRow.holds Tryd.pinned (OpenSpec.upto cpuStoresSpec)

/-- 'turnkeylaw17.CpuKeys', WHERE WHAT IT READS IS OF BULK AT MOST 1048576: true; the input reads as it did. -/
def cpuKeysUptoRow : OpenClaim := { program := "ytjkbfhojjjkgnaadoor", sum := "a2a9457c537038e11d0690e95ac3b32db86e2badfc01ec9b8db93e550ac77d14", func := "turnkey/turnkeylaw17.CpuKeys", spec := "cpuKeys", unfollowed := true, recurses := true, named := ["turnkey/api.ErrRange", "turnkey/api.ErrMany", "turnkey/api.ErrFull", "turnkey/api.ErrShape", "turnkey/api.ErrWord", "turnkey/code.forms"], apart := false, laid := [("turnkey/api.ErrShape", laid_turnkey_api_ErrShape), ("turnkey/api.ErrRange", laid_turnkey_api_ErrRange), ("turnkey/api.ErrMany", laid_turnkey_api_ErrMany), ("turnkey/api.ErrFull", laid_turnkey_api_ErrFull), ("turnkey/api.ErrWord", laid_turnkey_api_ErrWord), ("turnkey/code.forms", laid_turnkey_code_forms)], narrowed := true }
def CpuKeysUptoSaid : Prop := cpuKeysUptoRow.holds Tryd.pinned (OpenSpec.upto cpuKeysSpec)

/-- 'turnkeylaw17.CpuInvokes', WHERE WHAT IT READS IS OF BULK AT MOST 1048576: true; the input reads as it did. -/
def cpuInvokesUptoRow : OpenClaim := { program := "ytjkbfhojjjkgnaadoor", sum := "a2a9457c537038e11d0690e95ac3b32db86e2badfc01ec9b8db93e550ac77d14", func := "turnkey/turnkeylaw17.CpuInvokes", spec := "cpuInvokes", unfollowed := true, recurses := true, named := ["turnkey/api.ErrRange", "turnkey/api.ErrMany", "turnkey/api.ErrFull", "turnkey/api.ErrShape", "turnkey/api.ErrWord", "turnkey/code.forms"], apart := false, laid := [("turnkey/api.ErrShape", laid_turnkey_api_ErrShape), ("turnkey/api.ErrRange", laid_turnkey_api_ErrRange), ("turnkey/api.ErrMany", laid_turnkey_api_ErrMany), ("turnkey/api.ErrFull", laid_turnkey_api_ErrFull), ("turnkey/api.ErrWord", laid_turnkey_api_ErrWord), ("turnkey/code.forms", laid_turnkey_code_forms)], narrowed := true }
def CpuInvokesUptoSaid : Prop := cpuInvokesUptoRow.holds Tryd.pinned (OpenSpec.upto cpuInvokesSpec)

/-- 'turnkeylaw17.CpuJumps', WHERE WHAT IT READS IS OF BULK AT MOST 1048576: true; the input reads as it did. -/
def cpuJumpsUptoRow : OpenClaim := { program := "ytjkbfhojjjkgnaadoor", sum := "a2a9457c537038e11d0690e95ac3b32db86e2badfc01ec9b8db93e550ac77d14", func := "turnkey/turnkeylaw17.CpuJumps", spec := "cpuJumps", unfollowed := true, recurses := true, named := ["turnkey/api.ErrRange", "turnkey/api.ErrMany", "turnkey/api.ErrFull", "turnkey/api.ErrShape", "turnkey/api.ErrWord", "turnkey/code.forms"], apart := false, laid := [("turnkey/api.ErrShape", laid_turnkey_api_ErrShape), ("turnkey/api.ErrRange", laid_turnkey_api_ErrRange), ("turnkey/api.ErrMany", laid_turnkey_api_ErrMany), ("turnkey/api.ErrFull", laid_turnkey_api_ErrFull), ("turnkey/api.ErrWord", laid_turnkey_api_ErrWord), ("turnkey/code.forms", laid_turnkey_code_forms)], narrowed := true }
def CpuJumpsUptoSaid : Prop := cpuJumpsUptoRow.holds Tryd.pinned (OpenSpec.upto cpuJumpsSpec)

/-- 'turnkeylaw17.CpuFaults', WHERE WHAT IT READS IS OF BULK AT MOST 1048576: true; the input reads as it did. -/
def cpuFaultsUptoRow : OpenClaim := { program := "ytjkbfhojjjkgnaadoor", sum := "a2a9457c537038e11d0690e95ac3b32db86e2badfc01ec9b8db93e550ac77d14", func := "turnkey/turnkeylaw17.CpuFaults", spec := "cpuFaults", unfollowed := true, recurses := true, named := ["turnkey/api.ErrRange", "turnkey/api.ErrMany", "turnkey/api.ErrFull", "turnkey/api.ErrShape", "turnkey/api.ErrWord", "turnkey/code.forms"], apart := false, laid := [("turnkey/api.ErrShape", laid_turnkey_api_ErrShape), ("turnkey/api.ErrRange", laid_turnkey_api_ErrRange), ("turnkey/api.ErrMany", laid_turnkey_api_ErrMany), ("turnkey/api.ErrFull", laid_turnkey_api_ErrFull), ("turnkey/api.ErrWord", laid_turnkey_api_ErrWord), ("turnkey/code.forms", laid_turnkey_code_forms)], narrowed := true }
def CpuFaultsUptoSaid : Prop := cpuFaultsUptoRow.holds Tryd.pinned (OpenSpec.upto cpuFaultsSpec)

end Rows
end Go.Proofs.YtjkbfhojjjkgnaaDoor
