/- what stage 16's laws stand on, together
ARGUMENTS OF THE LAWS OF crowd, opened: deeds (strings by open_strs of XOrLaw) -/
import Derived.Test.YtmhiolhgofackaaCr
import Derived.Test.YtmhiolhgofackaaCrAl
import Derived.Test.YtmhiolhgofackaaCrAw
import Derived.Test.YtmhiolhgofackaaOrFitP
import Derived.Test.YtmhiolhgofackaaBsLaw
import Derived.Test.YtmhiolhgofackaaOrLaw
namespace Go.Proofs.Ytmhiolhgofackaa
theorem ss_st {w : World} {v : Value} {l : List ByteArray} : SsIn w v l ↔ StIn w v l := Iff.rfl
end Go.Proofs.Ytmhiolhgofackaa
namespace Go.Proofs.Ytmhiolhgofackaa
open Go.ChangeShapes Go.WideShapes Go.ChangeAt Go.RowKit Go.Deep
set_option linter.unusedVariables false
set_option linter.unusedSimpArgs false

structure Dd where
  kind : Int
  t : Int
  key : ByteArray
def Dd.cells (x : Dd) : List Value := [.int .i64 x.kind, .int .i64 x.t, .string x.key]
def Dd.agg (x : Dd) : Value := .agg #[.int .i64 x.kind, .int .i64 x.t, .string x.key]
def DdIn (w : World) (v : Value) (l : List Dd) : Prop := LIn Dd.cells 3 w v l
theorem DdIn.here {w : World} {v : Value} {l : List Dd} (h : DdIn w v l) (hn : 0 < l.length) : ∃ g off c, v = .slice (some ⟨g, off, none⟩) l.length c ∧ g < w.heap.size ∧ l.length ≤ c ∧ ∀ i x, l[i]? = some x → w.cell? ⟨g, off + i * 3, none⟩ = some (.int .i64 x.kind) ∧ w.cell? ⟨g, off + i * 3 + 1, none⟩ = some (.int .i64 x.t) ∧ w.cell? ⟨g, off + i * 3 + 2, none⟩ = some (.string x.key) := by
  obtain ⟨g, off, c, hv, h1, h2, h3⟩ := LIn.here h hn
  refine ⟨g, off, c, hv, h1, h2, fun i x hx => ?_⟩
  have q := h3 i x hx
  have e0 := q 0 (by decide)
  have e1 := q 1 (by decide)
  have e2 := q 2 (by decide)
  rw [← Nat.add_assoc] at e0 e1 e2
  exact ⟨e0, e1, e2⟩
section
variable {H : Type} {enc : TypeId × Value → H} {w : World} {base : Nat} {spare : Nat → Bool} {held : Bool}
end
end Go.Proofs.Ytmhiolhgofackaa
