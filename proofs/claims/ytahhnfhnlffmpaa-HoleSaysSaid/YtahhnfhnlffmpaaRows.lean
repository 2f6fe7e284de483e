/-
  No cell of these rows narrows 'for every input' (looked for: loops, veiled, ifaces, maps, wideKeys, modest, calm, conditions, laid).
  DERIVED. THE GIVEN ROWS OF THIS SEAT. 3 by the template 'for every input the law returns true; each argument reads behind the call as it read before'; 0 by the template 'total and deterministic' (their statements: YtahhnfhnlffmpaaTotals.lean).
  GIVEN WITH THE SEED: the statements are not yours to turn. If you find one false, say at which input.
  Laid BY PROGRAM, IN A SANDBOX (cutbox-rows.mjs): the forced cells as the released guide's own fill.sh prints them over the translation 2465381c95d8aa0b… (all of the seat's roots in one cut). By AI agents, Wed Nov 11 2026. No macro, syntax, notation, axiom, sorry.
-/
import Derived.Test.YtahhnfhnlffmpaaChecked
import GoSem.Claim
import GoSem.ClaimJoined
import GoSem.ClaimMapViews
import Derived.JoinedTies
import Derived.KernelRfl
namespace Go.Proofs.Ytahhnfhnlffmpaa
/- THE CELL 'sum', in the pinned program and in every row, IS THE sha256 OF THE DUMP (.gsa) THAT YtahhnfhnlffmpaaProg.lean LOADS. Nothing in Lean hashes anything: it is a label: what it is worth is what the hold of that sum in a sandbox is worth. -/
noncomputable def Try.pinned : Pinned := { name := "ytahhnfhnlffmpaa", sum := "2465381c95d8aa0b25268781d7351a856b31a51859e825723be72815c29bc03d", checked := Try.checked }
namespace Rows
def none {H : Type} : Left H := { results := [], args := [] }

/-- 'turnkeylaw19.HoleSays': WHATEVER THE INPUT: true; the input reads as it did. -/
def holeSaysSpec : ChangeSpec := { name := "holeSays", fn := fun _ => fun
  | [d1, d2, d3] => { results := [.lit (.bool true)], args := [d1, d2, d3] }
  | _ => none }
def holeSaysRow : OpenClaim := { program := "ytahhnfhnlffmpaa", sum := "2465381c95d8aa0b25268781d7351a856b31a51859e825723be72815c29bc03d", func := "turnkey/turnkeylaw19.HoleSays", spec := "holeSays", plainKeys := false, apart := false }
def HoleSaysSaid : Prop := holeSaysRow.holds Try.pinned (OpenSpec.ofChange holeSaysSpec)

/-- ITS FALSE NEIGHBOUR: 'it returns false'. Refute it at one input. -/
def holeSaysWrong : ChangeSpec := { name := "holeSays", fn := fun _ => fun
  | [d1, d2, d3] => { results := [.lit (.bool false)], args := [d1, d2, d3] }
  | _ => none }
def HoleSaysWrongFalsely : Prop := holeSaysRow.holds Try.pinned (OpenSpec.ofChange holeSaysWrong)

/-- 'turnkeylaw19.HoleRings': WHATEVER THE INPUT: true; the input reads as it did. -/
def holeRingsSpec : ChangeSpec := { name := "holeRings", fn := fun _ => fun
  | [d1, d2, d3] => { results := [.lit (.bool true)], args := [d1, d2, d3] }
  | _ => none }
def holeRingsRow : OpenClaim := { program := "ytahhnfhnlffmpaa", sum := "2465381c95d8aa0b25268781d7351a856b31a51859e825723be72815c29bc03d", func := "turnkey/turnkeylaw19.HoleRings", spec := "holeRings", plainKeys := false, apart := false }
def HoleRingsSaid : Prop := holeRingsRow.holds Try.pinned (OpenSpec.ofChange holeRingsSpec)

/-- ITS FALSE NEIGHBOUR: 'it returns false'. Refute it at one input. -/
def holeRingsWrong : ChangeSpec := { name := "holeRings", fn := fun _ => fun
  | [d1, d2, d3] => { results := [.lit (.bool false)], args := [d1, d2, d3] }
  | _ => none }
def HoleRingsWrongFalsely : Prop := holeRingsRow.holds Try.pinned (OpenSpec.ofChange holeRingsWrong)

/-- 'turnkeylaw19.HoleChains': WHATEVER THE INPUT: true; the input reads as it did. -/
def holeChainsSpec : ChangeSpec := { name := "holeChains", fn := fun _ => fun
  | [d1, d2, d3] => { results := [.lit (.bool true)], args := [d1, d2, d3] }
  | _ => none }
def holeChainsRow : OpenClaim := { program := "ytahhnfhnlffmpaa", sum := "2465381c95d8aa0b25268781d7351a856b31a51859e825723be72815c29bc03d", func := "turnkey/turnkeylaw19.HoleChains", spec := "holeChains", plainKeys := false, apart := false }
def HoleChainsSaid : Prop := holeChainsRow.holds Try.pinned (OpenSpec.ofChange holeChainsSpec)

/-- ITS FALSE NEIGHBOUR: 'it returns false'. Refute it at one input. -/
def holeChainsWrong : ChangeSpec := { name := "holeChains", fn := fun _ => fun
  | [d1, d2, d3] => { results := [.lit (.bool false)], args := [d1, d2, d3] }
  | _ => none }
def HoleChainsWrongFalsely : Prop := holeChainsRow.holds Try.pinned (OpenSpec.ofChange holeChainsWrong)

/- THE SECOND FORM. 'bulk': how many values and letters a reading holds, each counted each time it is reached (what is shared counts as often as it is met; a slice's spare places count too). A statement '..UptoSaid' is the law's where the arguments, and the package variables that the reading takes, are together of bulk at most 1048576: NARROWER than '..Said'. Prove '..Said' where nothing that the law and all that it calls make is longer than what came in: it says more and counts as full. Else prove '..UptoSaid'. A law counts once. -/
mutual
def uptoBulk {H : Type} : DataW H → Nat
  | .lit (.string bytes) => bytes.length + 1
  | .lit _ => 1
  | .nil => 1
  | .ptr d => uptoBulk d + 1
  | .slice elems spare => uptoBulkAll elems + uptoBulkAll spare + 1
  | .agg parts => uptoBulkAll parts + 1
  | .iface _ d => uptoBulk d + 1
  | .map entries => uptoBulkEntries entries + 1
  | .held _ => 1
def uptoBulkAll {H : Type} : List (DataW H) → Nat
  | [] => 0
  | d :: r => uptoBulk d + uptoBulkAll r
def uptoBulkEntries {H : Type} : List (Lit × DataW H) → Nat
  | [] => 0
  | x :: r => uptoBulkEntry x + uptoBulkEntries r
def uptoBulkEntry {H : Type} : Lit × DataW H → Nat
  | (.string bytes, d) => bytes.length + uptoBulk d + 1
  | (_, d) => uptoBulk d + 1
 end
def uptoSmall : (H : Type) → List (DataW H) → Bool := fun _ ds => decide (uptoBulkAll ds ≤ 1048576)
def OpenSpec.upto (s : _root_.Go.ChangeSpec) : _root_.Go.OpenSpec := { _root_.Go.OpenSpec.ofChange s with cond := some uptoSmall }

/-- 'turnkeylaw19.HoleSays', WHERE WHAT IT READS IS OF BULK AT MOST 1048576: true; the input reads as it did. -/
def holeSaysUptoRow : OpenClaim := { program := "ytahhnfhnlffmpaa", sum := "2465381c95d8aa0b25268781d7351a856b31a51859e825723be72815c29bc03d", func := "turnkey/turnkeylaw19.HoleSays", spec := "holeSays", plainKeys := false, apart := false, narrowed := true }
def HoleSaysUptoSaid : Prop := holeSaysUptoRow.holds Try.pinned (OpenSpec.upto holeSaysSpec)

/-- 'turnkeylaw19.HoleRings', WHERE WHAT IT READS IS OF BULK AT MOST 1048576: true; the input reads as it did. -/
def holeRingsUptoRow : OpenClaim := { program := "ytahhnfhnlffmpaa", sum := "2465381c95d8aa0b25268781d7351a856b31a51859e825723be72815c29bc03d", func := "turnkey/turnkeylaw19.HoleRings", spec := "holeRings", plainKeys := false, apart := false, narrowed := true }
def HoleRingsUptoSaid : Prop := holeRingsUptoRow.holds Try.pinned (OpenSpec.upto holeRingsSpec)

/-- 'turnkeylaw19.HoleChains', WHERE WHAT IT READS IS OF BULK AT MOST 1048576: true; the input reads as it did. -/
def holeChainsUptoRow : OpenClaim := { program := "ytahhnfhnlffmpaa", sum := "2465381c95d8aa0b25268781d7351a856b31a51859e825723be72815c29bc03d", func := "turnkey/turnkeylaw19.HoleChains", spec := "holeChains", plainKeys := false, apart := false, narrowed := true }
def HoleChainsUptoSaid : Prop := holeChainsUptoRow.holds Try.pinned (OpenSpec.upto holeChainsSpec)

end Rows
end Go.Proofs.Ytahhnfhnlffmpaa
