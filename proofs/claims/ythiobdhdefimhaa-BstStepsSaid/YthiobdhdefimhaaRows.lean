/-
  No cell of these rows narrows 'for every input' (looked for: loops, veiled, ifaces, maps, wideKeys, modest, calm, conditions, laid).
  DERIVED. THE GIVEN ROWS OF THIS SEAT. 3 by the template 'for every input the law returns true; each argument reads behind the call as it read before'; 0 by the template 'total and deterministic' (their statements: YthiobdhdefimhaaTotals.lean).
  GIVEN WITH THE SEED: the statements are not yours to turn. If you find one false, say at which input.
  Laid BY PROGRAM, IN A SANDBOX (cutbox-rows.mjs): the forced cells as the released guide's own fill.sh prints them over the translation d8c0528d2c0615d1… (all of the seat's roots in one cut). By AI agents, Wed Nov 11 2026. No macro, syntax, notation, axiom, sorry.
-/
import Derived.Test.YthiobdhdefimhaaChecked
import GoSem.Claim
import GoSem.ClaimJoined
import GoSem.ClaimMapViews
import Derived.JoinedTies
import Derived.KernelRfl
namespace Go.Proofs.Ythiobdhdefimhaa
/- THE CELL 'sum', in the pinned program and in every row, IS THE sha256 OF THE DUMP (.gsa) THAT YthiobdhdefimhaaProg.lean LOADS. Nothing in Lean hashes anything: it is a label: what it is worth is what the hold of that sum in a sandbox is worth. -/
noncomputable def Try.pinned : Pinned := { name := "ythiobdhdefimhaa", sum := "d8c0528d2c0615d1e5598fdc39538159708d044babb5d3b7b0c9a14b4618cbdb", checked := Try.checked }
namespace Rows
def none {H : Type} : Left H := { results := [], args := [] }

/-- 'impostlaw15.BstRuns': WHATEVER THE INPUT: true; the input reads as it did. -/
def bstRunsSpec : ChangeSpec := { name := "bstRuns", fn := fun _ => fun
  | [d] => { results := [.lit (.bool true)], args := [d] }
  | _ => none }
def bstRunsRow : OpenClaim := { program := "ythiobdhdefimhaa", sum := "d8c0528d2c0615d1e5598fdc39538159708d044babb5d3b7b0c9a14b4618cbdb", func := "impost/impostlaw15.BstRuns", spec := "bstRuns", unfollowed := true, recurses := true, apart := false }
def BstRunsSaid : Prop := bstRunsRow.holds Try.pinned (OpenSpec.ofChange bstRunsSpec)

/-- ITS FALSE NEIGHBOUR: 'it returns false'. Refute it at one input. -/
def bstRunsWrong : ChangeSpec := { name := "bstRuns", fn := fun _ => fun
  | [d] => { results := [.lit (.bool false)], args := [d] }
  | _ => none }
def BstRunsWrongFalsely : Prop := bstRunsRow.holds Try.pinned (OpenSpec.ofChange bstRunsWrong)

/-- 'impostlaw15.BstSteps': WHATEVER THE INPUT: true; the input reads as it did. -/
def bstStepsSpec : ChangeSpec := { name := "bstSteps", fn := fun _ => fun
  | [d1, d2, d3] => { results := [.lit (.bool true)], args := [d1, d2, d3] }
  | _ => none }
def bstStepsRow : OpenClaim := { program := "ythiobdhdefimhaa", sum := "d8c0528d2c0615d1e5598fdc39538159708d044babb5d3b7b0c9a14b4618cbdb", func := "impost/impostlaw15.BstSteps", spec := "bstSteps", unfollowed := true, recurses := true, apart := false }
def BstStepsSaid : Prop := bstStepsRow.holds Try.pinned (OpenSpec.ofChange bstStepsSpec)

/-- ITS FALSE NEIGHBOUR: 'it returns false'. Refute it at one input. -/
def bstStepsWrong : ChangeSpec := { name := "bstSteps", fn := fun _ => fun
  | [d1, d2, d3] => { results := [.lit (.bool false)], args := [d1, d2, d3] }
  | _ => none }
def BstStepsWrongFalsely : Prop := bstStepsRow.holds Try.pinned (OpenSpec.ofChange bstStepsWrong)

/-- 'impostlaw15.BstSeek': WHATEVER THE INPUT: true; the input reads as it did. -/
def bstSeekSpec : ChangeSpec := { name := "bstSeek", fn := fun _ => fun
  | [d1, d2, d3] => { results := [.lit (.bool true)], args := [d1, d2, d3] }
  | _ => none }
def bstSeekRow : OpenClaim := { program := "ythiobdhdefimhaa", sum := "d8c0528d2c0615d1e5598fdc39538159708d044babb5d3b7b0c9a14b4618cbdb", func := "impost/impostlaw15.BstSeek", spec := "bstSeek", unfollowed := true, recurses := true, apart := false }
def BstSeekSaid : Prop := bstSeekRow.holds Try.pinned (OpenSpec.ofChange bstSeekSpec)

/-- ITS FALSE NEIGHBOUR: 'it returns false'. Refute it at one input. -/
def bstSeekWrong : ChangeSpec := { name := "bstSeek", fn := fun _ => fun
  | [d1, d2, d3] => { results := [.lit (.bool false)], args := [d1, d2, d3] }
  | _ => none }
def BstSeekWrongFalsely : Prop := bstSeekRow.holds Try.pinned (OpenSpec.ofChange bstSeekWrong)

/- THE SECOND FORM. 'bulk': how many values and letters a reading holds, each counted each time it is reached (what is shared counts as often as it is met; a slice's spare places count too). A statement '..UptoSaid' is the law's where the arguments, and the package variables that the reading takes, are together of bulk at most 1048576: NARROWER than '..Said'. Prove '..Said' where nothing that the law and all that it calls make is longer than what came in: it says more and counts as full. Else prove '..UptoSaid'. A law counts once. -/
mutual
def uptoBulk {H : Type} : DataW H → Nat
  | .lit (.string bytes) => bytes.length + 1
  | .lit _ => 1
  | .nil => 1
  | .ptr d => uptoBulk d + 1
  | .slice elems spare => uptoBulkAll elems + uptoBulkAll spare + 1
  | .agg parts => uptoBulkAll parts + 1
  | .iface _ d => uptoBulk d + 1
  | .map entries => uptoBulkEntries entries + 1
  | .held _ => 1
def uptoBulkAll {H : Type} : List (DataW H) → Nat
  | [] => 0
  | d :: r => uptoBulk d + uptoBulkAll r
def uptoBulkEntries {H : Type} : List (Lit × DataW H) → Nat
  | [] => 0
  | x :: r => uptoBulkEntry x + uptoBulkEntries r
def uptoBulkEntry {H : Type} : Lit × DataW H → Nat
  | (.string bytes, d) => bytes.length + uptoBulk d + 1
  | (_, d) => uptoBulk d + 1
 end
def uptoSmall : (H : Type) → List (DataW H) → Bool := fun _ ds => decide (uptoBulkAll ds ≤ 1048576)
def OpenSpec.upto (s : _root_.Go.ChangeSpec) : _root_.Go.OpenSpec := { _root_.Go.OpenSpec.ofChange s with cond := some uptoSmall }

/-- 'impostlaw15.BstRuns', WHERE WHAT IT READS IS OF BULK AT MOST 1048576: true; the input reads as it did. -/
def bstRunsUptoRow : OpenClaim := { program := "ythiobdhdefimhaa", sum := "d8c0528d2c0615d1e5598fdc39538159708d044babb5d3b7b0c9a14b4618cbdb", func := "impost/impostlaw15.BstRuns", spec := "bstRuns", unfollowed := true, recurses := true, apart := false, narrowed := true }
def BstRunsUptoSaid : Prop := bstRunsUptoRow.holds Try.pinned (OpenSpec.upto bstRunsSpec)

/-- 'impostlaw15.BstSteps', WHERE WHAT IT READS IS OF BULK AT MOST 1048576: true; the input reads as it did. -/
def bstStepsUptoRow : OpenClaim := { program := "ythiobdhdefimhaa", sum := "d8c0528d2c0615d1e5598fdc39538159708d044babb5d3b7b0c9a14b4618cbdb", func := "impost/impostlaw15.BstSteps", spec := "bstSteps", unfollowed := true, recurses := true, apart := false, narrowed := true }
def BstStepsUptoSaid : Prop := bstStepsUptoRow.holds Try.pinned (OpenSpec.upto bstStepsSpec)

/-- 'impostlaw15.BstSeek', WHERE WHAT IT READS IS OF BULK AT MOST 1048576: true; the input reads as it did. -/
def bstSeekUptoRow : OpenClaim := { program := "ythiobdhdefimhaa", sum := "d8c0528d2c0615d1e5598fdc39538159708d044babb5d3b7b0c9a14b4618cbdb", func := "impost/impostlaw15.BstSeek", spec := "bstSeek", unfollowed := true, recurses := true, apart := false, narrowed := true }
def BstSeekUptoSaid : Prop := bstSeekUptoRow.holds Try.pinned (OpenSpec.upto bstSeekSpec)

end Rows
end Go.Proofs.Ythiobdhdefimhaa
