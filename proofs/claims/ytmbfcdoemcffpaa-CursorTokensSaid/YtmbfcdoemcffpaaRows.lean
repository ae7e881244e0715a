/-
  No cell of these rows narrows 'for every input' (looked for: loops, veiled, ifaces, maps, wideKeys, modest, calm, conditions, laid).
  DERIVED. THE GIVEN ROWS OF THIS SEAT. 5 by the template 'for every input the law returns true; each argument reads behind the call as it read before'; 0 by the template 'total and deterministic' (their statements: YtmbfcdoemcffpaaTotals.lean).
  GIVEN WITH THE SEED: the statements are not yours to turn. If you find one false, say at which input.
  Laid BY PROGRAM, IN A SANDBOX (cutbox-rows.mjs): the forced cells as the released guide's own fill.sh prints them over the translation 0dfc690e306c8f51… (all of the seat's roots in one cut). By AI agents, Wed Nov 11 2026. No macro, syntax, notation, axiom, sorry.
-/
import Derived.Test.YtmbfcdoemcffpaaChecked
import GoSem.Claim
import GoSem.ClaimJoined
import GoSem.ClaimMapViews
import Derived.JoinedTies
import Derived.KernelRfl
namespace Go.Proofs.Ytmbfcdoemcffpaa
/- THE CELL 'sum', in the pinned program and in every row, IS THE sha256 OF THE DUMP (.gsa) THAT YtmbfcdoemcffpaaProg.lean LOADS. Nothing in Lean hashes anything: it is a label: what it is worth is what the hold of that sum in a sandbox is worth. -/
noncomputable def Try.pinned : Pinned := { name := "ytmbfcdoemcffpaa", sum := "0dfc690e306c8f51a8d519d23874d28bc533266d24e3e235f04fba7ad2656644", checked := Try.checked }
namespace Rows
def none {H : Type} : Left H := { results := [], args := [] }

/-- 'impostlaw10.CursorDelivers': WHATEVER THE INPUT: true; the input reads as it did. -/
def cursorDeliversSpec : ChangeSpec := { name := "cursorDelivers", fn := fun _ => fun
  | [d1, d2, d3] => { results := [.lit (.bool true)], args := [d1, d2, d3] }
  | _ => none }
def cursorDeliversRow : OpenClaim := { program := "ytmbfcdoemcffpaa", sum := "0dfc690e306c8f51a8d519d23874d28bc533266d24e3e235f04fba7ad2656644", func := "impost/impostlaw10.CursorDelivers", spec := "cursorDelivers", unfollowed := true, recurses := true, apart := false }
def CursorDeliversSaid : Prop := cursorDeliversRow.holds Try.pinned (OpenSpec.ofChange cursorDeliversSpec)

/-- ITS FALSE NEIGHBOUR: 'it returns false'. Refute it at one input. -/
def cursorDeliversWrong : ChangeSpec := { name := "cursorDelivers", fn := fun _ => fun
  | [d1, d2, d3] => { results := [.lit (.bool false)], args := [d1, d2, d3] }
  | _ => none }
def CursorDeliversWrongFalsely : Prop := cursorDeliversRow.holds Try.pinned (OpenSpec.ofChange cursorDeliversWrong)

/-- 'impostlaw10.CursorFolds': WHATEVER THE INPUT: true; the input reads as it did. -/
def cursorFoldsSpec : ChangeSpec := { name := "cursorFolds", fn := fun _ => fun
  | [d1, d2, d3] => { results := [.lit (.bool true)], args := [d1, d2, d3] }
  | _ => none }
def cursorFoldsRow : OpenClaim := { program := "ytmbfcdoemcffpaa", sum := "0dfc690e306c8f51a8d519d23874d28bc533266d24e3e235f04fba7ad2656644", func := "impost/impostlaw10.CursorFolds", spec := "cursorFolds", unfollowed := true, recurses := true, apart := false }
def CursorFoldsSaid : Prop := cursorFoldsRow.holds Try.pinned (OpenSpec.ofChange cursorFoldsSpec)

/-- ITS FALSE NEIGHBOUR: 'it returns false'. Refute it at one input. -/
def cursorFoldsWrong : ChangeSpec := { name := "cursorFolds", fn := fun _ => fun
  | [d1, d2, d3] => { results := [.lit (.bool false)], args := [d1, d2, d3] }
  | _ => none }
def CursorFoldsWrongFalsely : Prop := cursorFoldsRow.holds Try.pinned (OpenSpec.ofChange cursorFoldsWrong)

/-- 'impostlaw10.CursorEvents': WHATEVER THE INPUT: true; the input reads as it did. -/
def cursorEventsSpec : ChangeSpec := { name := "cursorEvents", fn := fun _ => fun
  | [d1, d2, d3] => { results := [.lit (.bool true)], args := [d1, d2, d3] }
  | _ => none }
def cursorEventsRow : OpenClaim := { program := "ytmbfcdoemcffpaa", sum := "0dfc690e306c8f51a8d519d23874d28bc533266d24e3e235f04fba7ad2656644", func := "impost/impostlaw10.CursorEvents", spec := "cursorEvents", unfollowed := true, recurses := true, apart := false }
def CursorEventsSaid : Prop := cursorEventsRow.holds Try.pinned (OpenSpec.ofChange cursorEventsSpec)

/-- ITS FALSE NEIGHBOUR: 'it returns false'. Refute it at one input. -/
def cursorEventsWrong : ChangeSpec := { name := "cursorEvents", fn := fun _ => fun
  | [d1, d2, d3] => { results := [.lit (.bool false)], args := [d1, d2, d3] }
  | _ => none }
def CursorEventsWrongFalsely : Prop := cursorEventsRow.holds Try.pinned (OpenSpec.ofChange cursorEventsWrong)

/-- 'impostlaw10.CursorOnce': WHATEVER THE INPUT: true; the input reads as it did. -/
def cursorOnceSpec : ChangeSpec := { name := "cursorOnce", fn := fun _ => fun
  | [d1, d2, d3] => { results := [.lit (.bool true)], args := [d1, d2, d3] }
  | _ => none }
def cursorOnceRow : OpenClaim := { program := "ytmbfcdoemcffpaa", sum := "0dfc690e306c8f51a8d519d23874d28bc533266d24e3e235f04fba7ad2656644", func := "impost/impostlaw10.CursorOnce", spec := "cursorOnce", unfollowed := true, recurses := true, apart := false }
def CursorOnceSaid : Prop := cursorOnceRow.holds Try.pinned (OpenSpec.ofChange cursorOnceSpec)

/-- ITS FALSE NEIGHBOUR: 'it returns false'. Refute it at one input. -/
def cursorOnceWrong : ChangeSpec := { name := "cursorOnce", fn := fun _ => fun
  | [d1, d2, d3] => { results := [.lit (.bool false)], args := [d1, d2, d3] }
  | _ => none }
def CursorOnceWrongFalsely : Prop := cursorOnceRow.holds Try.pinned (OpenSpec.ofChange cursorOnceWrong)

/-- 'impostlaw10.CursorTokens': WHATEVER THE INPUT: true; the input reads as it did. -/
def cursorTokensSpec : ChangeSpec := { name := "cursorTokens", fn := fun _ => fun
  | [d1, d2, d3] => { results := [.lit (.bool true)], args := [d1, d2, d3] }
  | _ => none }
def cursorTokensRow : OpenClaim := { program := "ytmbfcdoemcffpaa", sum := "0dfc690e306c8f51a8d519d23874d28bc533266d24e3e235f04fba7ad2656644", func := "impost/impostlaw10.CursorTokens", spec := "cursorTokens", unfollowed := true, recurses := true, apart := false }
def CursorTokensSaid : Prop := cursorTokensRow.holds Try.pinned (OpenSpec.ofChange cursorTokensSpec)

/-- ITS FALSE NEIGHBOUR: 'it returns false'. Refute it at one input. -/
def cursorTokensWrong : ChangeSpec := { name := "cursorTokens", fn := fun _ => fun
  | [d1, d2, d3] => { results := [.lit (.bool false)], args := [d1, d2, d3] }
  | _ => none }
def CursorTokensWrongFalsely : Prop := cursorTokensRow.holds Try.pinned (OpenSpec.ofChange cursorTokensWrong)

/- THE SECOND FORM. 'bulk': how many values and letters a reading holds, each counted each time it is reached (what is shared counts as often as it is met; a slice's spare places count too). A statement '..UptoSaid' is the law's where the arguments, and the package variables that the reading takes, are together of bulk at most 1048576: NARROWER than '..Said'. Prove '..Said' where nothing that the law and all that it calls make is longer than what came in: it says more and counts as full. Else prove '..UptoSaid'. A law counts once. -/
mutual
def uptoBulk {H : Type} : DataW H → Nat
  | .lit (.string bytes) => bytes.length + 1
  | .lit _ => 1
  | .nil => 1
  | .ptr d => uptoBulk d + 1
  | .slice elems spare => uptoBulkAll elems + uptoBulkAll spare + 1
  | .agg parts => uptoBulkAll parts + 1
  | .iface _ d => uptoBulk d + 1
  | .map entries => uptoBulkEntries entries + 1
  | .held _ => 1
def uptoBulkAll {H : Type} : List (DataW H) → Nat
  | [] => 0
  | d :: r => uptoBulk d + uptoBulkAll r
def uptoBulkEntries {H : Type} : List (Lit × DataW H) → Nat
  | [] => 0
  | x :: r => uptoBulkEntry x + uptoBulkEntries r
def uptoBulkEntry {H : Type} : Lit × DataW H → Nat
  | (.string bytes, d) => bytes.length + uptoBulk d + 1
  | (_, d) => uptoBulk d + 1
 end
def uptoSmall : (H : Type) → List (DataW H) → Bool := fun _ ds => decide (uptoBulkAll ds ≤ 1048576)
def OpenSpec.upto (s : _root_.Go.ChangeSpec) : _root_.Go.OpenSpec := { _root_.Go.OpenSpec.ofChange s with cond := some uptoSmall }

/-- 'impostlaw10.CursorDelivers', WHERE WHAT IT READS IS OF BULK AT MOST 1048576: true; the input reads as it did. -/
def cursorDeliversUptoRow : OpenClaim := { program := "ytmbfcdoemcffpaa", sum := "0dfc690e306c8f51a8d519d23874d28bc533266d24e3e235f04fba7ad2656644", func := "impost/impostlaw10.CursorDelivers", spec := "cursorDelivers", unfollowed := true, recurses := true, apart := false, narrowed := true }
def CursorDeliversUptoSaid : Prop := cursorDeliversUptoRow.holds Try.pinned (OpenSpec.upto cursorDeliversSpec)

/-- 'impostlaw10.CursorFolds', WHERE WHAT IT READS IS OF BULK AT MOST 1048576: true; the input reads as it did. -/
def cursorFoldsUptoRow : OpenClaim := { program := "ytmbfcdoemcffpaa", sum := "0dfc690e306c8f51a8d519d23874d28bc533266d24e3e235f04fba7ad2656644", func := "impost/impostlaw10.CursorFolds", spec := "cursorFolds", unfollowed := true, recurses := true, apart := false, narrowed := true }
def CursorFoldsUptoSaid : Prop := cursorFoldsUptoRow.holds Try.pinned (OpenSpec.upto cursorFoldsSpec)

/-- 'impostlaw10.CursorEvents', WHERE WHAT IT READS IS OF BULK AT MOST 1048576: true; the input reads as it did. -/
def cursorEventsUptoRow : OpenClaim := { program := "ytmbfcdoemcffpaa", sum := "0dfc690e306c8f51a8d519d23874d28bc533266d24e3e235f04fba7ad2656644", func := "impost/impostlaw10.CursorEvents", spec := "cursorEvents", unfollowed := true, recurses := true, apart := false, narrowed := true }
def CursorEventsUptoSaid : Prop := cursorEventsUptoRow.holds Try.pinned (OpenSpec.upto cursorEventsSpec)

/-- 'impostlaw10.CursorOnce', WHERE WHAT IT READS IS OF BULK AT MOST 1048576: true; the input reads as it did. -/
def cursorOnceUptoRow : OpenClaim := { program := "ytmbfcdoemcffpaa", sum := "0dfc690e306c8f51a8d519d23874d28bc533266d24e3e235f04fba7ad2656644", func := "impost/impostlaw10.CursorOnce", spec := "cursorOnce", unfollowed := true, recurses := true, apart := false, narrowed := true }
def CursorOnceUptoSaid : Prop := cursorOnceUptoRow.holds Try.pinned (OpenSpec.upto cursorOnceSpec)

/-- 'impostlaw10.CursorTokens', WHERE WHAT IT READS IS OF BULK AT MOST 1048576: true; the input reads as it did. -/
def cursorTokensUptoRow : OpenClaim := { program := "ytmbfcdoemcffpaa", sum := "0dfc690e306c8f51a8d519d23874d28bc533266d24e3e235f04fba7ad2656644", func := "impost/impostlaw10.CursorTokens", spec := "cursorTokens", unfollowed := true, recurses := true, apart := false, narrowed := true }
def CursorTokensUptoSaid : Prop := cursorTokensUptoRow.holds Try.pinned (OpenSpec.upto cursorTokensSpec)

end Rows
end Go.Proofs.Ytmbfcdoemcffpaa
