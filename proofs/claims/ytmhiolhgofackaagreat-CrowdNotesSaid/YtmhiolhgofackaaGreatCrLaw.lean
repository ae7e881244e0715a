/- what stage 16's laws stand on, together
ARGUMENTS OF THE LAWS OF crowd, opened: deeds (strings by open_strs of XOrLaw) -/
import Derived.Test.YtmhiolhgofackaaGreatCr
import Derived.Test.YtmhiolhgofackaaGreatCrAl
import Derived.Test.YtmhiolhgofackaaGreatCrAw
import Derived.Test.YtmhiolhgofackaaGreatOrFitP
import Derived.Test.YtmhiolhgofackaaGreatBsLaw
import Derived.Test.YtmhiolhgofackaaGreatOrLaw
namespace Go.Proofs.YtmhiolhgofackaaGreat
theorem ss_st {w : World} {v : Value} {l : List ByteArray} : SsIn w v l ↔ StIn w v l := Iff.rfl
end Go.Proofs.YtmhiolhgofackaaGreat
namespace Go.Proofs.YtmhiolhgofackaaGreat
open Go.ChangeShapes Go.WideShapes Go.ChangeAt Go.RowKit Go.Deep
set_option linter.unusedVariables false
set_option linter.unusedSimpArgs false

structure Dd where
  kind : Int
  t : Int
  key : ByteArray
def Dd.cells (x : Dd) : List Value := [.int .i64 x.kind, .int .i64 x.t, .string x.key]
def Dd.agg (x : Dd) : Value := .agg #[.int .i64 x.kind, .int .i64 x.t, .string x.key]
def DdIn (w : World) (v : Value) (l : List Dd) : Prop := LIn Dd.cells 3 w v l
theorem DdIn.here {w : World} {v : Value} {l : List Dd} (h : DdIn w v l) (hn : 0 < l.length) : ∃ g off c, v = .slice (some ⟨g, off, none⟩) l.length c ∧ g < w.heap.size ∧ l.length ≤ c ∧ ∀ i x, l[i]? = some x → w.cell? ⟨g, off + i * 3, none⟩ = some (.int .i64 x.kind) ∧ w.cell? ⟨g, off + i * 3 + 1, none⟩ = some (.int .i64 x.t) ∧ w.cell? ⟨g, off + i * 3 + 2, none⟩ = some (.string x.key) := by
  obtain ⟨g, off, c, hv, h1, h2, h3⟩ := LIn.here h hn
  refine ⟨g, off, c, hv, h1, h2, fun i x hx => ?_⟩
  have q := h3 i x hx
  have e0 := q 0 (by decide)
  have e1 := q 1 (by decide)
  have e2 := q 2 (by decide)
  rw [← Nat.add_assoc] at e0 e1 e2
  exact ⟨e0, e1, e2⟩
theorem dd_cells : Tryz.prog.cellsOf 32 = 3 := by kernel_rfl
section
variable {H : Type} {enc : TypeId × Value → H} {w : World} {base : Nat} {spare : Nat → Bool} {held : Bool}
set_option maxRecDepth 100000 in
theorem dd_of {n : Nat} {cs : List Value} {x : DataW H × List MemPlace} (h : DataW.trod enc Tryz.prog w base spare held n 32 cs = some x) :
    ∃ y : Dd, ∀ j, j < 3 → cs[j]? = y.cells[j]? := by
  obtain ⟨z0, h0, _⟩ := field_int Tryz.underlying32 h 0 _ rfl (by kernel_rfl) (by rw [dd_cells]; decide) Tryz.underlying3
  obtain ⟨z1, h1, _⟩ := field_int Tryz.underlying32 h 1 _ rfl (by kernel_rfl) (by rw [dd_cells]; decide) Tryz.underlying3
  obtain ⟨z2, h2, _⟩ := field_str Tryz.underlying32 h 2 _ rfl (by kernel_rfl) (by rw [dd_cells]; decide) Tryz.underlying9
  refine ⟨⟨z0, z1, z2⟩, fun j hj => ?_⟩
  match j, hj with
  | 0, _ => exact h0
  | 1, _ => exact h1
  | 2, _ => exact h2
set_option maxRecDepth 100000 in
theorem open_dds {v : Value} {d : DataW H} {p : List MemPlace} {r : Reach} {b0 : Nat} (hv : Value.okWide Tryz.prog w r b0 23 v) (h : DataW.Trod enc Tryz.prog w base spare held 23 v d p) :
    ∃ l : List Dd, DdIn w v l := by
  obtain ⟨a, len, cap, rfl⟩ := okWide_slice Tryz.underlying23 hv
  obtain ⟨fuel, hf⟩ := h
  obtain ⟨h1, h2, h3⟩ := slice_cells Tryz.underlying23 (by simpa [Value.cells] using hf)
  by_cases hl : 0 < len
  · obtain ⟨b, off, ha, hb, hc⟩ := h3 hl (by rw [dd_cells]; decide)
    obtain ⟨l, hl1, hl2⟩ := list_of (α := Dd) (P := fun i x => ∀ j, j < 3 → w.cell? ⟨b, off + (i * 3 + j), none⟩ = x.cells[j]?) len (fun i hi => by
      obtain ⟨cs, m, y, hy, _, hat⟩ := hc i hi
      obtain ⟨x, hx⟩ := dd_of hy
      rw [dd_cells] at hat
      refine ⟨x, fun j hj => ?_⟩
      rw [← Nat.add_assoc, hat j hj]; exact hx j hj)
    subst hl1
    exact ⟨l, a, cap, rfl, h1, h2, fun _ => ⟨b, off, ha, hb, hl2⟩⟩
  · have : len = 0 := by omega
    subst this
    exact ⟨[], a, cap, rfl, h1, h2, fun h => absurd h (by simp)⟩
end
end Go.Proofs.YtmhiolhgofackaaGreat
