/- THE LAWS OF hist: put, del, few, do: contracts -/
import Derived.Test.YtmbfcdoemcffpaaHist
import Derived.Test.YtmbfcdoemcffpaaHsApp
import Derived.Test.YtmbfcdoemcffpaaEvCmp
namespace Go.Proofs.Ytmbfcdoemcffpaa
open Go.RowKit
set_option linter.unusedVariables false
set_option linter.unusedSimpArgs false

/-- a deed, and where its ops lie -/
structure Dd where
  kind : Int
  u : Value
  rev : Int
  ops : List Od
def Dd.cells (d : Dd) : List Value := [.int .i64 d.kind, d.u, .int .i64 d.rev]
theorem Dd.clen (d : Dd) : d.cells.length = 3 := rfl
def DdIn (w : World) (v : Value) (l : List Dd) : Prop := LIn Dd.cells 3 w v l ∧ ∀ d ∈ l, OdIn w d.u d.ops
theorem DdIn.keep0 {w w' : World} {v : Value} {l : List Dd} (h : DdIn w v l) (hf : Fr [] w w') : DdIn w' v l := ⟨LIn.keep0 h.1 hf, fun d hd => LIn.keep0 (h.2 d hd) hf⟩
theorem DdIn.form {w : World} {v : Value} {l : List Dd} (h : DdIn w v l) : ∃ s c, v = .slice s l.length c ∧ l.length ≤ c ∧ c ≤ maxLen := LIn.form h.1
theorem DdIn.here {w : World} {v : Value} {l : List Dd} (h : DdIn w v l) (hn : 0 < l.length) : ∃ g off c, v = .slice (some ⟨g, off, none⟩) l.length c ∧ g < w.heap.size ∧ l.length ≤ c ∧
    ∀ i x, l[i]? = some x → w.cell? ⟨g, off + i * 3, none⟩ = some (.int .i64 x.kind) ∧ w.cell? ⟨g, off + i * 3 + 1, none⟩ = some x.u ∧ w.cell? ⟨g, off + i * 3 + 2, none⟩ = some (.int .i64 x.rev) ∧ OdIn w x.u x.ops := by
  obtain ⟨g, off, c, hv, h1, h2, h3⟩ := LIn.here h.1 hn
  refine ⟨g, off, c, hv, h1, h2, fun i x hx => ?_⟩
  have q := h3 i x hx
  have e0 := q 0 (by decide)
  have e1 := q 1 (by decide)
  have e2 := q 2 (by decide)
  rw [← Nat.add_assoc] at e0 e1 e2
  exact ⟨e0, e1, e2, h.2 x (List.mem_of_getElem? hx)⟩
theorem mem_snocD {α : Type} {l : List α} {j : Nat} {x : α} (hx : l[j]? = some x) (y : α) : y ∈ l.take (j + 1) ↔ y ∈ l.take j ∨ y = x := by
  rw [take_snoc hx, List.mem_append, List.mem_singleton]
def fewB (l : List Dd) : Bool := decide (l.length ≤ 30) && l.all (fun d => decide (d.ops.length ≤ 8))
end Go.Proofs.Ytmbfcdoemcffpaa
