/-
  No cell of these rows narrows 'for every input' (looked for: loops, veiled, ifaces, maps, wideKeys, modest, calm, conditions, laid).
  DERIVED. THE GIVEN ROWS OF THIS SEAT. 4 by the template 'for every input the law returns true; each argument reads behind the call as it read before'; 0 by the template 'total and deterministic' (their statements: YtpahencocbahgaaTotals.lean).
  GIVEN WITH THE SEED: the statements are not yours to turn. If you find one false, say at which input.
  Laid BY PROGRAM, IN A SANDBOX (cutbox-rows.mjs): the forced cells as the released guide's own fill.sh prints them over the translation 02449116eecf0e8c… (all of the seat's roots in one cut). By AI agents, Wed Nov 11 2026. No macro, syntax, notation, axiom, sorry.
-/
import Derived.Test.YtpahencocbahgaaChecked
import GoSem.Claim
import GoSem.ClaimJoined
import GoSem.ClaimMapViews
import Derived.JoinedTies
import Derived.KernelRfl
namespace Go.Proofs.Ytpahencocbahgaa
/- THE CELL 'sum', in the pinned program and in every row, IS THE sha256 OF THE DUMP (.gsa) THAT YtpahencocbahgaaProg.lean LOADS. Nothing in Lean hashes anything: it is a label: what it is worth is what the hold of that sum in a sandbox is worth. -/
noncomputable def Try.pinned : Pinned := { name := "ytpahencocbahgaa", sum := "02449116eecf0e8cc4f217ae9204ddbb00b0b3fd82a8f8b7372bd63f4c676b1a", checked := Try.checked }
namespace Rows
def none {H : Type} : Left H := { results := [], args := [] }

/-- 'impostlaw06.HistStays': WHATEVER THE INPUT: true; the input reads as it did. -/
def histStaysSpec : ChangeSpec := { name := "histStays", fn := fun _ => fun
  | [d1, d2, d3] => { results := [.lit (.bool true)], args := [d1, d2, d3] }
  | _ => none }
def histStaysRow : OpenClaim := { program := "ytpahencocbahgaa", sum := "02449116eecf0e8cc4f217ae9204ddbb00b0b3fd82a8f8b7372bd63f4c676b1a", func := "impost/impostlaw06.HistStays", spec := "histStays", unfollowed := true, recurses := true, apart := false }
def HistStaysSaid : Prop := histStaysRow.holds Try.pinned (OpenSpec.ofChange histStaysSpec)

/-- ITS FALSE NEIGHBOUR: 'it returns false'. Refute it at one input. -/
def histStaysWrong : ChangeSpec := { name := "histStays", fn := fun _ => fun
  | [d1, d2, d3] => { results := [.lit (.bool false)], args := [d1, d2, d3] }
  | _ => none }
def HistStaysWrongFalsely : Prop := histStaysRow.holds Try.pinned (OpenSpec.ofChange histStaysWrong)

/-- 'impostlaw06.HistPuts': WHATEVER THE INPUT: true; the input reads as it did. -/
def histPutsSpec : ChangeSpec := { name := "histPuts", fn := fun _ => fun
  | [d1, d2, d3] => { results := [.lit (.bool true)], args := [d1, d2, d3] }
  | _ => none }
def histPutsRow : OpenClaim := { program := "ytpahencocbahgaa", sum := "02449116eecf0e8cc4f217ae9204ddbb00b0b3fd82a8f8b7372bd63f4c676b1a", func := "impost/impostlaw06.HistPuts", spec := "histPuts", unfollowed := true, recurses := true, apart := false }
def HistPutsSaid : Prop := histPutsRow.holds Try.pinned (OpenSpec.ofChange histPutsSpec)

/-- ITS FALSE NEIGHBOUR: 'it returns false'. Refute it at one input. -/
def histPutsWrong : ChangeSpec := { name := "histPuts", fn := fun _ => fun
  | [d1, d2, d3] => { results := [.lit (.bool false)], args := [d1, d2, d3] }
  | _ => none }
def HistPutsWrongFalsely : Prop := histPutsRow.holds Try.pinned (OpenSpec.ofChange histPutsWrong)

/-- 'impostlaw06.HistHorizon': WHATEVER THE INPUT: true; the input reads as it did. -/
def histHorizonSpec : ChangeSpec := { name := "histHorizon", fn := fun _ => fun
  | [d1, d2] => { results := [.lit (.bool true)], args := [d1, d2] }
  | _ => none }
def histHorizonRow : OpenClaim := { program := "ytpahencocbahgaa", sum := "02449116eecf0e8cc4f217ae9204ddbb00b0b3fd82a8f8b7372bd63f4c676b1a", func := "impost/impostlaw06.HistHorizon", spec := "histHorizon", unfollowed := true, recurses := true, apart := false }
def HistHorizonSaid : Prop := histHorizonRow.holds Try.pinned (OpenSpec.ofChange histHorizonSpec)

/-- ITS FALSE NEIGHBOUR: 'it returns false'. Refute it at one input. -/
def histHorizonWrong : ChangeSpec := { name := "histHorizon", fn := fun _ => fun
  | [d1, d2] => { results := [.lit (.bool false)], args := [d1, d2] }
  | _ => none }
def HistHorizonWrongFalsely : Prop := histHorizonRow.holds Try.pinned (OpenSpec.ofChange histHorizonWrong)

/-- 'impostlaw06.HistCopies': WHATEVER THE INPUT: true; the input reads as it did. -/
def histCopiesSpec : ChangeSpec := { name := "histCopies", fn := fun _ => fun
  | [d1, d2] => { results := [.lit (.bool true)], args := [d1, d2] }
  | _ => none }
def histCopiesRow : OpenClaim := { program := "ytpahencocbahgaa", sum := "02449116eecf0e8cc4f217ae9204ddbb00b0b3fd82a8f8b7372bd63f4c676b1a", func := "impost/impostlaw06.HistCopies", spec := "histCopies", unfollowed := true, recurses := true, apart := false }
def HistCopiesSaid : Prop := histCopiesRow.holds Try.pinned (OpenSpec.ofChange histCopiesSpec)

/-- ITS FALSE NEIGHBOUR: 'it returns false'. Refute it at one input. -/
def histCopiesWrong : ChangeSpec := { name := "histCopies", fn := fun _ => fun
  | [d1, d2] => { results := [.lit (.bool false)], args := [d1, d2] }
  | _ => none }
def HistCopiesWrongFalsely : Prop := histCopiesRow.holds Try.pinned (OpenSpec.ofChange histCopiesWrong)

/- THE SECOND FORM. 'bulk': how many values and letters a reading holds, each counted each time it is reached (what is shared counts as often as it is met; a slice's spare places count too). A statement '..UptoSaid' is the law's where the arguments, and the package variables that the reading takes, are together of bulk at most 1048576: NARROWER than '..Said'. Prove '..Said' where nothing that the law and all that it calls make is longer than what came in: it says more and counts as full. Else prove '..UptoSaid'. A law counts once. -/
mutual
def uptoBulk {H : Type} : DataW H → Nat
  | .lit (.string bytes) => bytes.length + 1
  | .lit _ => 1
  | .nil => 1
  | .ptr d => uptoBulk d + 1
  | .slice elems spare => uptoBulkAll elems + uptoBulkAll spare + 1
  | .agg parts => uptoBulkAll parts + 1
  | .iface _ d => uptoBulk d + 1
  | .map entries => uptoBulkEntries entries + 1
  | .held _ => 1
def uptoBulkAll {H : Type} : List (DataW H) → Nat
  | [] => 0
  | d :: r => uptoBulk d + uptoBulkAll r
def uptoBulkEntries {H : Type} : List (Lit × DataW H) → Nat
  | [] => 0
  | x :: r => uptoBulkEntry x + uptoBulkEntries r
def uptoBulkEntry {H : Type} : Lit × DataW H → Nat
  | (.string bytes, d) => bytes.length + uptoBulk d + 1
  | (_, d) => uptoBulk d + 1
 end
def uptoSmall : (H : Type) → List (DataW H) → Bool := fun _ ds => decide (uptoBulkAll ds ≤ 1048576)
def OpenSpec.upto (s : _root_.Go.ChangeSpec) : _root_.Go.OpenSpec := { _root_.Go.OpenSpec.ofChange s with cond := some uptoSmall }

/-- 'impostlaw06.HistStays', WHERE WHAT IT READS IS OF BULK AT MOST 1048576: true; the input reads as it did. -/
def histStaysUptoRow : OpenClaim := { program := "ytpahencocbahgaa", sum := "02449116eecf0e8cc4f217ae9204ddbb00b0b3fd82a8f8b7372bd63f4c676b1a", func := "impost/impostlaw06.HistStays", spec := "histStays", unfollowed := true, recurses := true, apart := false, narrowed := true }
def HistStaysUptoSaid : Prop := histStaysUptoRow.holds Try.pinned (OpenSpec.upto histStaysSpec)

/-- 'impostlaw06.HistPuts', WHERE WHAT IT READS IS OF BULK AT MOST 1048576: true; the input reads as it did. -/
def histPutsUptoRow : OpenClaim := { program := "ytpahencocbahgaa", sum := "02449116eecf0e8cc4f217ae9204ddbb00b0b3fd82a8f8b7372bd63f4c676b1a", func := "impost/impostlaw06.HistPuts", spec := "histPuts", unfollowed := true, recurses := true, apart := false, narrowed := true }
def HistPutsUptoSaid : Prop := histPutsUptoRow.holds Try.pinned (OpenSpec.upto histPutsSpec)

/-- 'impostlaw06.HistHorizon', WHERE WHAT IT READS IS OF BULK AT MOST 1048576: true; the input reads as it did. -/
def histHorizonUptoRow : OpenClaim := { program := "ytpahencocbahgaa", sum := "02449116eecf0e8cc4f217ae9204ddbb00b0b3fd82a8f8b7372bd63f4c676b1a", func := "impost/impostlaw06.HistHorizon", spec := "histHorizon", unfollowed := true, recurses := true, apart := false, narrowed := true }
def HistHorizonUptoSaid : Prop := histHorizonUptoRow.holds Try.pinned (OpenSpec.upto histHorizonSpec)

/-- 'impostlaw06.HistCopies', WHERE WHAT IT READS IS OF BULK AT MOST 1048576: true; the input reads as it did. -/
def histCopiesUptoRow : OpenClaim := { program := "ytpahencocbahgaa", sum := "02449116eecf0e8cc4f217ae9204ddbb00b0b3fd82a8f8b7372bd63f4c676b1a", func := "impost/impostlaw06.HistCopies", spec := "histCopies", unfollowed := true, recurses := true, apart := false, narrowed := true }
def HistCopiesUptoSaid : Prop := histCopiesUptoRow.holds Try.pinned (OpenSpec.upto histCopiesSpec)

end Rows
end Go.Proofs.Ytpahencocbahgaa
