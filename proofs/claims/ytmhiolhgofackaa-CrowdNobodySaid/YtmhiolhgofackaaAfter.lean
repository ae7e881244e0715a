/- GENERIC: A REGION THAT DRAWS ITS ORDER, READS, AND CALLS WHAT MAKES MEMORY BUT LEAVES WHAT THERE IS (but for the blocks of S): ONE WALK IN THE ORDER OF THE TEXT, over the class of all worlds that come of w. -/
import Derived.Test.YtmhiolhgofackaaLies
import Derived.BigQuiet
namespace Go.Proofs.Ytmhiolhgofackaa
open Go.RowKit
set_option linter.unusedVariables false
set_option linter.unusedSimpArgs false

/-- a world that came of w, but for S and new blocks the same -/
structure After (S : List Nat) (w : World) where
  now : World
  fr : Fr S w now
section
variable {S : List Nat} {w : World}
instance : Nonempty (After S w) := ⟨⟨w, Fr.refl S w⟩⟩
theorem After.cell (n : After S w) {p : Addr} {v : Value} (h : w.cell? p = some v) (hn : p.block ∉ S) : n.now.cell? p = some v := n.fr.cell h hn
theorem After.block (n : After S w) {p : Nat} {o : Obj} (h : w.heap[p]? = some o) (hn : p ∉ S) : n.now.heap[p]? = some o := n.fr.keep h hn
theorem After.quiet {n : After S w} {P : Program} {f : FuncId} {args : Array Value} {v : Value} (h : Calls P f args n.now fun e w' => e = .returned v ∧ Fr S n.now w') :
    Calls P f args n.now fun e w'' => e = .returned v ∧ ∃ m : After S w, w'' = m.now :=
  h.mono fun _ _ ⟨he, hf⟩ => ⟨he, ⟨_, n.fr.trans hf (fun x hx => Or.inl hx)⟩, rfl⟩
theorem After.quiet_bool {n : After S w} {P : Program} {f : FuncId} {args : Array Value} {a b : Bool} (h : Calls P f args n.now fun e w' => e = .returned (.bool a) ∧ Fr S n.now w') (hb : a = b) :
    Calls P f args n.now fun e w'' => e = .returned (.bool b) ∧ ∃ m : After S w, w'' = m.now := by rw [← hb]; exact After.quiet h
theorem wp_region_after (S : List Nat) {P : Program} {id : Nat} {Q : Exit → Act → World → Prop} {a : Act} {w : World} {l : List Oper} (hm : P.follows .mixedOrders = true) (hB : Region.lexB .any l.toArray = true)
    (h : wpQuiet P l.toArray (fun w' => ∃ n : After S w, w' = n.now) (fun a' => ∀ w', (∃ n : After S w, w' = n.now) → Q .normal a' w') l a) : (Code.region id l.toArray true).wp P Q a w :=
  wp_region_quiet (C := fun w' => ∃ n : After S w, w' = n.now) hm hB ⟨⟨_, (Fr.refl S w).drew⟩, rfl⟩ (by simpa using h)
end
end Go.Proofs.Ytmhiolhgofackaa
