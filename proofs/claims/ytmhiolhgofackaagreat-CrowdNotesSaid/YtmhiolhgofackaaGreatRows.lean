/-
  No cell of these rows narrows 'for every input' (looked for: loops, veiled, ifaces, maps, wideKeys, modest, calm, conditions, laid).
  DERIVED. THE GIVEN ROWS OF THIS SEAT. 3 by the template 'for every input the law returns true; each argument reads behind the call as it read before'; 0 by the template 'total and deterministic' (their statements: YtmhiolhgofackaaGreatTotals.lean).
  GIVEN WITH THE SEED: the statements are not yours to turn. If you find one false, say at which input.
  Laid BY PROGRAM, IN A SANDBOX (cutbox-rows.mjs): the forced cells as the released guide's own fill.sh prints them over the translation e77d56b8394d7d9e… (all of the seat's roots in one cut). By AI agents, Wed Nov 11 2026. No macro, syntax, notation, axiom, sorry.
-/
import Derived.Test.YtmhiolhgofackaaGreatChecked
import GoSem.Claim
import GoSem.ClaimJoined
import GoSem.ClaimMapViews
import Derived.JoinedTies
import Derived.KernelRfl
namespace Go.Proofs.YtmhiolhgofackaaGreat
/- THE CELL 'sum', in the pinned program and in every row, IS THE sha256 OF THE DUMP (.gsa) THAT YtmhiolhgofackaaGreatProg.lean LOADS. Nothing in Lean hashes anything: it is a label: what it is worth is what the hold of that sum in a sandbox is worth. -/
noncomputable def Tryz.pinned : Pinned := { name := "ytmhiolhgofackaagreat", sum := "e77d56b8394d7d9e333502e82a33a796dd3db5c3e2c287e9df621250ba351b4a", checked := Tryz.checked }
namespace Rows
def none {H : Type} : Left H := { results := [], args := [] }

/-- 'impostlaw16.CrowdFits': WHATEVER THE INPUT: true; the input reads as it did. -/
def crowdFitsSpec : ChangeSpec := { name := "crowdFits", fn := fun _ => fun
  | [d1, d2] => { results := [.lit (.bool true)], args := [d1, d2] }
  | _ => none }
def crowdFitsRow : OpenClaim := { program := "ytmhiolhgofackaagreat", sum := "e77d56b8394d7d9e333502e82a33a796dd3db5c3e2c287e9df621250ba351b4a", func := "impost/impostlaw16.CrowdFits", spec := "crowdFits", unfollowed := true, recurses := true, plainKeys := false, apart := false }
def CrowdFitsSaid : Prop := crowdFitsRow.holds Tryz.pinned (OpenSpec.ofChange crowdFitsSpec)

/-- ITS FALSE NEIGHBOUR: 'it returns false'. Refute it at one input. -/
def crowdFitsWrong : ChangeSpec := { name := "crowdFits", fn := fun _ => fun
  | [d1, d2] => { results := [.lit (.bool false)], args := [d1, d2] }
  | _ => none }
def CrowdFitsWrongFalsely : Prop := crowdFitsRow.holds Tryz.pinned (OpenSpec.ofChange crowdFitsWrong)

/-- 'impostlaw16.CrowdNotes': WHATEVER THE INPUT: true; the input reads as it did. -/
def crowdNotesSpec : ChangeSpec := { name := "crowdNotes", fn := fun _ => fun
  | [d] => { results := [.lit (.bool true)], args := [d] }
  | _ => none }
def crowdNotesRow : OpenClaim := { program := "ytmhiolhgofackaagreat", sum := "e77d56b8394d7d9e333502e82a33a796dd3db5c3e2c287e9df621250ba351b4a", func := "impost/impostlaw16.CrowdNotes", spec := "crowdNotes", unfollowed := true, recurses := true, plainKeys := false, apart := false }
def CrowdNotesSaid : Prop := crowdNotesRow.holds Tryz.pinned (OpenSpec.ofChange crowdNotesSpec)

/-- ITS FALSE NEIGHBOUR: 'it returns false'. Refute it at one input. -/
def crowdNotesWrong : ChangeSpec := { name := "crowdNotes", fn := fun _ => fun
  | [d] => { results := [.lit (.bool false)], args := [d] }
  | _ => none }
def CrowdNotesWrongFalsely : Prop := crowdNotesRow.holds Tryz.pinned (OpenSpec.ofChange crowdNotesWrong)

/-- 'impostlaw16.CrowdAlone': WHATEVER THE INPUT: true; the input reads as it did. -/
def crowdAloneSpec : ChangeSpec := { name := "crowdAlone", fn := fun _ => fun
  | [d] => { results := [.lit (.bool true)], args := [d] }
  | _ => none }
def crowdAloneRow : OpenClaim := { program := "ytmhiolhgofackaagreat", sum := "e77d56b8394d7d9e333502e82a33a796dd3db5c3e2c287e9df621250ba351b4a", func := "impost/impostlaw16.CrowdAlone", spec := "crowdAlone", unfollowed := true, recurses := true, plainKeys := false, apart := false }
def CrowdAloneSaid : Prop := crowdAloneRow.holds Tryz.pinned (OpenSpec.ofChange crowdAloneSpec)

/-- ITS FALSE NEIGHBOUR: 'it returns false'. Refute it at one input. -/
def crowdAloneWrong : ChangeSpec := { name := "crowdAlone", fn := fun _ => fun
  | [d] => { results := [.lit (.bool false)], args := [d] }
  | _ => none }
def CrowdAloneWrongFalsely : Prop := crowdAloneRow.holds Tryz.pinned (OpenSpec.ofChange crowdAloneWrong)

/- THE SECOND FORM. 'bulk': how many values and letters a reading holds, each counted each time it is reached (what is shared counts as often as it is met; a slice's spare places count too). A statement '..UptoSaid' is the law's where the arguments, and the package variables that the reading takes, are together of bulk at most 1048576: NARROWER than '..Said'. Prove '..Said' where nothing that the law and all that it calls make is longer than what came in: it says more and counts as full. Else prove '..UptoSaid'. A law counts once. -/
mutual
def uptoBulk {H : Type} : DataW H → Nat
  | .lit (.string bytes) => bytes.length + 1
  | .lit _ => 1
  | .nil => 1
  | .ptr d => uptoBulk d + 1
  | .slice elems spare => uptoBulkAll elems + uptoBulkAll spare + 1
  | .agg parts => uptoBulkAll parts + 1
  | .iface _ d => uptoBulk d + 1
  | .map entries => uptoBulkEntries entries + 1
  | .held _ => 1
def uptoBulkAll {H : Type} : List (DataW H) → Nat
  | [] => 0
  | d :: r => uptoBulk d + uptoBulkAll r
def uptoBulkEntries {H : Type} : List (Lit × DataW H) → Nat
  | [] => 0
  | x :: r => uptoBulkEntry x + uptoBulkEntries r
def uptoBulkEntry {H : Type} : Lit × DataW H → Nat
  | (.string bytes, d) => bytes.length + uptoBulk d + 1
  | (_, d) => uptoBulk d + 1
 end
def uptoSmall : (H : Type) → List (DataW H) → Bool := fun _ ds => decide (uptoBulkAll ds ≤ 1048576)
def OpenSpec.upto (s : _root_.Go.ChangeSpec) : _root_.Go.OpenSpec := { _root_.Go.OpenSpec.ofChange s with cond := some uptoSmall }

/-- 'impostlaw16.CrowdFits', WHERE WHAT IT READS IS OF BULK AT MOST 1048576: true; the input reads as it did. -/
def crowdFitsUptoRow : OpenClaim := { program := "ytmhiolhgofackaagreat", sum := "e77d56b8394d7d9e333502e82a33a796dd3db5c3e2c287e9df621250ba351b4a", func := "impost/impostlaw16.CrowdFits", spec := "crowdFits", unfollowed := true, recurses := true, plainKeys := false, apart := false, narrowed := true }
def CrowdFitsUptoSaid : Prop := crowdFitsUptoRow.holds Tryz.pinned (OpenSpec.upto crowdFitsSpec)

/-- 'impostlaw16.CrowdNotes', WHERE WHAT IT READS IS OF BULK AT MOST 1048576: true; the input reads as it did. -/
def crowdNotesUptoRow : OpenClaim := { program := "ytmhiolhgofackaagreat", sum := "e77d56b8394d7d9e333502e82a33a796dd3db5c3e2c287e9df621250ba351b4a", func := "impost/impostlaw16.CrowdNotes", spec := "crowdNotes", unfollowed := true, recurses := true, plainKeys := false, apart := false, narrowed := true }
def CrowdNotesUptoSaid : Prop := crowdNotesUptoRow.holds Tryz.pinned (OpenSpec.upto crowdNotesSpec)

/-- 'impostlaw16.CrowdAlone', WHERE WHAT IT READS IS OF BULK AT MOST 1048576: true; the input reads as it did. -/
def crowdAloneUptoRow : OpenClaim := { program := "ytmhiolhgofackaagreat", sum := "e77d56b8394d7d9e333502e82a33a796dd3db5c3e2c287e9df621250ba351b4a", func := "impost/impostlaw16.CrowdAlone", spec := "crowdAlone", unfollowed := true, recurses := true, plainKeys := false, apart := false, narrowed := true }
def CrowdAloneUptoSaid : Prop := crowdAloneUptoRow.holds Tryz.pinned (OpenSpec.upto crowdAloneSpec)

end Rows
end Go.Proofs.YtmhiolhgofackaaGreat
