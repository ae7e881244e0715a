/- ARGUMENTS OF THE LAWS OF key, opened; what a call tells, as a fact -/
import Derived.Test.YtcaildjmpeefbaaKeyAwake
import Derived.Test.YtcaildjmpeefbaaKeyRef
import Derived.Test.YtcaildjmpeefbaaLaw
import Derived.Lib.SmallJoins
import Derived.ChangeMaps5
import Derived.SizedLaws
import Derived.Deep.RegionHeld3
import Derived.Deep.DeepCutAuto
namespace Go.Proofs.Ytcaildjmpeefbaa
open Go.ChangeShapes Go.WideShapes Go.ChangeAt Go.RowKit Go.Deep
set_option linter.unusedVariables false
set_option linter.unusedSimpArgs false

/-- the function tells v, in every world, and changes nothing that was there -/
structure CV (fn : FuncId) (args : Array Value) (v : Value) : Prop where
  out : ∀ W, Calls Try.prog fn args W fun e w' => e = .returned v ∧ Fr [] W w'
theorem blk2 (w : World) (a b : Obj) : ((w.alloc a).alloc b).heap[w.heap.size]? = some a ∧ ((w.alloc a).alloc b).heap[w.heap.size + 1]? = some b := by
  have h2 := new_block (w.alloc a) b
  have s1 : (w.alloc a).heap.size = w.heap.size + 1 := by simp
  rw [s1] at h2
  exact ⟨(Below.heap_alloc _ _ _ (by omega)).trans (new_block w a), h2⟩
theorem range_cells : Try.prog.cellsOf 23 = 2 := by kernel_rfl
section
variable {H : Type} {enc : TypeId × Value → H} {w : World} {base : Nat} {spare : Nat → Bool} {held : Bool}
theorem open_range {v : Value} {d : DataW H} {p : List MemPlace} {r : Reach} {b0 : Nat} (hv : Value.okWide Try.prog w r b0 23 v) (h : DataW.Trod enc Try.prog w base spare held 23 v d p) :
    ∃ f t : ByteArray, v = .agg #[.string f, .string t] ∧ f.size ≤ maxLen ∧ t.size ≤ maxLen := by
  obtain ⟨c0, c1, y0, y1, m, rfl, rfl, rfl, h0, h1⟩ := Joins.open_agg2 Try.underlying23 (by kernel_rfl) range_cells hv h
  obtain ⟨f, e0, _, w0⟩ := DataW.trod_string Try.underlying9 h0
  obtain ⟨t, e1, _, w1⟩ := DataW.trod_string Try.underlying9 h1
  simp only [List.cons.injEq, and_true] at e0 e1
  subst e0 e1
  exact ⟨f, t, rfl, w0, w1⟩
end
end Go.Proofs.Ytcaildjmpeefbaa
