/-
  No cell of these rows narrows 'for every input' (looked for: loops, veiled, ifaces, maps, wideKeys, modest, calm, conditions, laid).
  DERIVED. THE GIVEN ROWS OF THIS SEAT. 3 by the template 'for every input the law returns true; each argument reads behind the call as it read before'; 0 by the template 'total and deterministic' (their statements: YtggnaalcdekccaaTotals.lean).
  GIVEN WITH THE SEED: the statements are not yours to turn. If you find one false, say at which input.
  Laid BY PROGRAM, IN A SANDBOX (cutbox-rows.mjs): the forced cells as the released guide's own fill.sh prints them over the translation 041e7de05e1f5a1c… (all of the seat's roots in one cut). By AI agents, Wed Nov 11 2026. No macro, syntax, notation, axiom, sorry.
-/
import Derived.Test.YtggnaalcdekccaaChecked
import GoSem.Claim
import GoSem.ClaimJoined
import GoSem.ClaimMapViews
import Derived.JoinedTies
import Derived.KernelRfl
namespace Go.Proofs.Ytggnaalcdekccaa
/- THE CELL 'sum', in the pinned program and in every row, IS THE sha256 OF THE DUMP (.gsa) THAT YtggnaalcdekccaaProg.lean LOADS. Nothing in Lean hashes anything: it is a label: what it is worth is what the hold of that sum in a sandbox is worth. -/
noncomputable def Try.pinned : Pinned := { name := "ytggnaalcdekccaa", sum := "041e7de05e1f5a1ce22471673ce92b51cb093c1a4a598f47fdf6fd96af51bb0a", checked := Try.checked }
namespace Rows
def none {H : Type} : Left H := { results := [], args := [] }

/-- 'turnkeylaw7.RightSays': WHATEVER THE INPUT: true; the input reads as it did. -/
def rightSaysSpec : ChangeSpec := { name := "rightSays", fn := fun _ => fun
  | [d1, d2, d3, d4] => { results := [.lit (.bool true)], args := [d1, d2, d3, d4] }
  | _ => none }
def rightSaysRow : OpenClaim := { program := "ytggnaalcdekccaa", sum := "041e7de05e1f5a1ce22471673ce92b51cb093c1a4a598f47fdf6fd96af51bb0a", func := "turnkey/turnkeylaw7.RightSays", spec := "rightSays", apart := false }
def RightSaysSaid : Prop := rightSaysRow.holds Try.pinned (OpenSpec.ofChange rightSaysSpec)

/-- ITS FALSE NEIGHBOUR: 'it returns false'. Refute it at one input. -/
def rightSaysWrong : ChangeSpec := { name := "rightSays", fn := fun _ => fun
  | [d1, d2, d3, d4] => { results := [.lit (.bool false)], args := [d1, d2, d3, d4] }
  | _ => none }
def RightSaysWrongFalsely : Prop := rightSaysRow.holds Try.pinned (OpenSpec.ofChange rightSaysWrong)

/-- 'turnkeylaw7.RightWeakens': WHATEVER THE INPUT: true; the input reads as it did. -/
def rightWeakensSpec : ChangeSpec := { name := "rightWeakens", fn := fun _ => fun
  | [d] => { results := [.lit (.bool true)], args := [d] }
  | _ => none }
def rightWeakensRow : OpenClaim := { program := "ytggnaalcdekccaa", sum := "041e7de05e1f5a1ce22471673ce92b51cb093c1a4a598f47fdf6fd96af51bb0a", func := "turnkey/turnkeylaw7.RightWeakens", spec := "rightWeakens", apart := false }
def RightWeakensSaid : Prop := rightWeakensRow.holds Try.pinned (OpenSpec.ofChange rightWeakensSpec)

/-- ITS FALSE NEIGHBOUR: 'it returns false'. Refute it at one input. -/
def rightWeakensWrong : ChangeSpec := { name := "rightWeakens", fn := fun _ => fun
  | [d] => { results := [.lit (.bool false)], args := [d] }
  | _ => none }
def RightWeakensWrongFalsely : Prop := rightWeakensRow.holds Try.pinned (OpenSpec.ofChange rightWeakensWrong)

/-- 'turnkeylaw7.RightOrders': WHATEVER THE INPUT: true; the input reads as it did. -/
def rightOrdersSpec : ChangeSpec := { name := "rightOrders", fn := fun _ => fun
  | [d1, d2, d3, d4] => { results := [.lit (.bool true)], args := [d1, d2, d3, d4] }
  | _ => none }
def rightOrdersRow : OpenClaim := { program := "ytggnaalcdekccaa", sum := "041e7de05e1f5a1ce22471673ce92b51cb093c1a4a598f47fdf6fd96af51bb0a", func := "turnkey/turnkeylaw7.RightOrders", spec := "rightOrders", apart := false }
def RightOrdersSaid : Prop := rightOrdersRow.holds Try.pinned (OpenSpec.ofChange rightOrdersSpec)

/-- ITS FALSE NEIGHBOUR: 'it returns false'. Refute it at one input. -/
def rightOrdersWrong : ChangeSpec := { name := "rightOrders", fn := fun _ => fun
  | [d1, d2, d3, d4] => { results := [.lit (.bool false)], args := [d1, d2, d3, d4] }
  | _ => none }
def RightOrdersWrongFalsely : Prop := rightOrdersRow.holds Try.pinned (OpenSpec.ofChange rightOrdersWrong)

/- THE SECOND FORM. 'bulk': how many values and letters a reading holds, each counted each time it is reached (what is shared counts as often as it is met; a slice's spare places count too). A statement '..UptoSaid' is the law's where the arguments, and the package variables that the reading takes, are together of bulk at most 1048576: NARROWER than '..Said'. Prove '..Said' where nothing that the law and all that it calls make is longer than what came in: it says more and counts as full. Else prove '..UptoSaid'. A law counts once. -/
mutual
def uptoBulk {H : Type} : DataW H → Nat
  | .lit (.string bytes) => bytes.length + 1
  | .lit _ => 1
  | .nil => 1
  | .ptr d => uptoBulk d + 1
  | .slice elems spare => uptoBulkAll elems + uptoBulkAll spare + 1
  | .agg parts => uptoBulkAll parts + 1
  | .iface _ d => uptoBulk d + 1
  | .map entries => uptoBulkEntries entries + 1
  | .held _ => 1
def uptoBulkAll {H : Type} : List (DataW H) → Nat
  | [] => 0
  | d :: r => uptoBulk d + uptoBulkAll r
def uptoBulkEntries {H : Type} : List (Lit × DataW H) → Nat
  | [] => 0
  | x :: r => uptoBulkEntry x + uptoBulkEntries r
def uptoBulkEntry {H : Type} : Lit × DataW H → Nat
  | (.string bytes, d) => bytes.length + uptoBulk d + 1
  | (_, d) => uptoBulk d + 1
 end
def uptoSmall : (H : Type) → List (DataW H) → Bool := fun _ ds => decide (uptoBulkAll ds ≤ 1048576)
def OpenSpec.upto (s : _root_.Go.ChangeSpec) : _root_.Go.OpenSpec := { _root_.Go.OpenSpec.ofChange s with cond := some uptoSmall }

/-- 'turnkeylaw7.RightSays', WHERE WHAT IT READS IS OF BULK AT MOST 1048576: true; the input reads as it did. -/
def rightSaysUptoRow : OpenClaim := { program := "ytggnaalcdekccaa", sum := "041e7de05e1f5a1ce22471673ce92b51cb093c1a4a598f47fdf6fd96af51bb0a", func := "turnkey/turnkeylaw7.RightSays", spec := "rightSays", apart := false, narrowed := true }
def RightSaysUptoSaid : Prop := rightSaysUptoRow.holds Try.pinned (OpenSpec.upto rightSaysSpec)

/-- 'turnkeylaw7.RightWeakens', WHERE WHAT IT READS IS OF BULK AT MOST 1048576: true; the input reads as it did. -/
def rightWeakensUptoRow : OpenClaim := { program := "ytggnaalcdekccaa", sum := "041e7de05e1f5a1ce22471673ce92b51cb093c1a4a598f47fdf6fd96af51bb0a", func := "turnkey/turnkeylaw7.RightWeakens", spec := "rightWeakens", apart := false, narrowed := true }
def RightWeakensUptoSaid : Prop := rightWeakensUptoRow.holds Try.pinned (OpenSpec.upto rightWeakensSpec)

/-- 'turnkeylaw7.RightOrders', WHERE WHAT IT READS IS OF BULK AT MOST 1048576: true; the input reads as it did. -/
def rightOrdersUptoRow : OpenClaim := { program := "ytggnaalcdekccaa", sum := "041e7de05e1f5a1ce22471673ce92b51cb093c1a4a598f47fdf6fd96af51bb0a", func := "turnkey/turnkeylaw7.RightOrders", spec := "rightOrders", apart := false, narrowed := true }
def RightOrdersUptoSaid : Prop := rightOrdersUptoRow.holds Try.pinned (OpenSpec.upto rightOrdersSpec)

end Rows
end Go.Proofs.Ytggnaalcdekccaa
