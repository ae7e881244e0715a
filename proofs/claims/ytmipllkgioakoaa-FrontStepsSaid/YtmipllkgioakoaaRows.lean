/-
  No cell of these rows narrows 'for every input' (looked for: loops, veiled, ifaces, maps, wideKeys, modest, calm, conditions, laid).
  DERIVED. THE GIVEN ROWS OF THIS SEAT. 3 by the template 'for every input the law returns true; each argument reads behind the call as it read before'; 0 by the template 'total and deterministic' (their statements: YtmipllkgioakoaaTotals.lean).
  GIVEN WITH THE SEED: the statements are not yours to turn. If you find one false, say at which input.
  Laid BY PROGRAM, IN A SANDBOX (cutbox-rows.mjs): the forced cells as the released guide's own fill.sh prints them over the translation 45c448696b5ee93c… (all of the seat's roots in one cut). By AI agents, Wed Nov 11 2026. No macro, syntax, notation, axiom, sorry.
-/
import Derived.Test.YtmipllkgioakoaaChecked
import GoSem.Claim
import GoSem.ClaimJoined
import GoSem.ClaimMapViews
import Derived.JoinedTies
import Derived.KernelRfl
namespace Go.Proofs.Ytmipllkgioakoaa
/- THE CELL 'sum', in the pinned program and in every row, IS THE sha256 OF THE DUMP (.gsa) THAT YtmipllkgioakoaaProg.lean LOADS. Nothing in Lean hashes anything: it is a label: what it is worth is what the hold of that sum in a sandbox is worth. -/
noncomputable def Try.pinned : Pinned := { name := "ytmipllkgioakoaa", sum := "45c448696b5ee93c1869b12a1bd41b880ddf213c0cf2b09dd780c6419e8f0592", checked := Try.checked }
namespace Rows
def none {H : Type} : Left H := { results := [], args := [] }

/-- 'impostlaw13.FrontOwn': WHATEVER THE INPUT: true; the input reads as it did. -/
def frontOwnSpec : ChangeSpec := { name := "frontOwn", fn := fun _ => fun
  | [d1, d2, d3] => { results := [.lit (.bool true)], args := [d1, d2, d3] }
  | _ => none }
def frontOwnRow : OpenClaim := { program := "ytmipllkgioakoaa", sum := "45c448696b5ee93c1869b12a1bd41b880ddf213c0cf2b09dd780c6419e8f0592", func := "impost/impostlaw13.FrontOwn", spec := "frontOwn", recurses := true, apart := false }
def FrontOwnSaid : Prop := frontOwnRow.holds Try.pinned (OpenSpec.ofChange frontOwnSpec)

/-- ITS FALSE NEIGHBOUR: 'it returns false'. Refute it at one input. -/
def frontOwnWrong : ChangeSpec := { name := "frontOwn", fn := fun _ => fun
  | [d1, d2, d3] => { results := [.lit (.bool false)], args := [d1, d2, d3] }
  | _ => none }
def FrontOwnWrongFalsely : Prop := frontOwnRow.holds Try.pinned (OpenSpec.ofChange frontOwnWrong)

/-- 'impostlaw13.FrontSteps': WHATEVER THE INPUT: true; the input reads as it did. -/
def frontStepsSpec : ChangeSpec := { name := "frontSteps", fn := fun _ => fun
  | [d1, d2, d3] => { results := [.lit (.bool true)], args := [d1, d2, d3] }
  | _ => none }
def frontStepsRow : OpenClaim := { program := "ytmipllkgioakoaa", sum := "45c448696b5ee93c1869b12a1bd41b880ddf213c0cf2b09dd780c6419e8f0592", func := "impost/impostlaw13.FrontSteps", spec := "frontSteps", apart := false }
def FrontStepsSaid : Prop := frontStepsRow.holds Try.pinned (OpenSpec.ofChange frontStepsSpec)

/-- ITS FALSE NEIGHBOUR: 'it returns false'. Refute it at one input. -/
def frontStepsWrong : ChangeSpec := { name := "frontSteps", fn := fun _ => fun
  | [d1, d2, d3] => { results := [.lit (.bool false)], args := [d1, d2, d3] }
  | _ => none }
def FrontStepsWrongFalsely : Prop := frontStepsRow.holds Try.pinned (OpenSpec.ofChange frontStepsWrong)

/-- 'impostlaw13.FrontReads': WHATEVER THE INPUT: true; the input reads as it did. -/
def frontReadsSpec : ChangeSpec := { name := "frontReads", fn := fun _ => fun
  | [d1, d2, d3] => { results := [.lit (.bool true)], args := [d1, d2, d3] }
  | _ => none }
def frontReadsRow : OpenClaim := { program := "ytmipllkgioakoaa", sum := "45c448696b5ee93c1869b12a1bd41b880ddf213c0cf2b09dd780c6419e8f0592", func := "impost/impostlaw13.FrontReads", spec := "frontReads", apart := false }
def FrontReadsSaid : Prop := frontReadsRow.holds Try.pinned (OpenSpec.ofChange frontReadsSpec)

/-- ITS FALSE NEIGHBOUR: 'it returns false'. Refute it at one input. -/
def frontReadsWrong : ChangeSpec := { name := "frontReads", fn := fun _ => fun
  | [d1, d2, d3] => { results := [.lit (.bool false)], args := [d1, d2, d3] }
  | _ => none }
def FrontReadsWrongFalsely : Prop := frontReadsRow.holds Try.pinned (OpenSpec.ofChange frontReadsWrong)

/- THE SECOND FORM. 'bulk': how many values and letters a reading holds, each counted each time it is reached (what is shared counts as often as it is met; a slice's spare places count too). A statement '..UptoSaid' is the law's where the arguments, and the package variables that the reading takes, are together of bulk at most 1048576: NARROWER than '..Said'. Prove '..Said' where nothing that the law and all that it calls make is longer than what came in: it says more and counts as full. Else prove '..UptoSaid'. A law counts once. -/
mutual
def uptoBulk {H : Type} : DataW H → Nat
  | .lit (.string bytes) => bytes.length + 1
  | .lit _ => 1
  | .nil => 1
  | .ptr d => uptoBulk d + 1
  | .slice elems spare => uptoBulkAll elems + uptoBulkAll spare + 1
  | .agg parts => uptoBulkAll parts + 1
  | .iface _ d => uptoBulk d + 1
  | .map entries => uptoBulkEntries entries + 1
  | .held _ => 1
def uptoBulkAll {H : Type} : List (DataW H) → Nat
  | [] => 0
  | d :: r => uptoBulk d + uptoBulkAll r
def uptoBulkEntries {H : Type} : List (Lit × DataW H) → Nat
  | [] => 0
  | x :: r => uptoBulkEntry x + uptoBulkEntries r
def uptoBulkEntry {H : Type} : Lit × DataW H → Nat
  | (.string bytes, d) => bytes.length + uptoBulk d + 1
  | (_, d) => uptoBulk d + 1
 end
def uptoSmall : (H : Type) → List (DataW H) → Bool := fun _ ds => decide (uptoBulkAll ds ≤ 1048576)
def OpenSpec.upto (s : _root_.Go.ChangeSpec) : _root_.Go.OpenSpec := { _root_.Go.OpenSpec.ofChange s with cond := some uptoSmall }

/-- 'impostlaw13.FrontOwn', WHERE WHAT IT READS IS OF BULK AT MOST 1048576: true; the input reads as it did. -/
def frontOwnUptoRow : OpenClaim := { program := "ytmipllkgioakoaa", sum := "45c448696b5ee93c1869b12a1bd41b880ddf213c0cf2b09dd780c6419e8f0592", func := "impost/impostlaw13.FrontOwn", spec := "frontOwn", recurses := true, apart := false, narrowed := true }
def FrontOwnUptoSaid : Prop := frontOwnUptoRow.holds Try.pinned (OpenSpec.upto frontOwnSpec)

/-- 'impostlaw13.FrontSteps', WHERE WHAT IT READS IS OF BULK AT MOST 1048576: true; the input reads as it did. -/
def frontStepsUptoRow : OpenClaim := { program := "ytmipllkgioakoaa", sum := "45c448696b5ee93c1869b12a1bd41b880ddf213c0cf2b09dd780c6419e8f0592", func := "impost/impostlaw13.FrontSteps", spec := "frontSteps", apart := false, narrowed := true }
def FrontStepsUptoSaid : Prop := frontStepsUptoRow.holds Try.pinned (OpenSpec.upto frontStepsSpec)

/-- 'impostlaw13.FrontReads', WHERE WHAT IT READS IS OF BULK AT MOST 1048576: true; the input reads as it did. -/
def frontReadsUptoRow : OpenClaim := { program := "ytmipllkgioakoaa", sum := "45c448696b5ee93c1869b12a1bd41b880ddf213c0cf2b09dd780c6419e8f0592", func := "impost/impostlaw13.FrontReads", spec := "frontReads", apart := false, narrowed := true }
def FrontReadsUptoSaid : Prop := frontReadsUptoRow.holds Try.pinned (OpenSpec.upto frontReadsSpec)

end Rows
end Go.Proofs.Ytmipllkgioakoaa
