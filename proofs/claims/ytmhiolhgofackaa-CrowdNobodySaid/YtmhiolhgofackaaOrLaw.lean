/- ARGUMENTS OF THE LAWS OF order, opened: calls, strings, bytes -/
import Derived.Test.YtmhiolhgofackaaOrAt
import Derived.Test.YtmhiolhgofackaaLaw
namespace Go.Proofs.Ytmhiolhgofackaa
open Go.ChangeShapes Go.WideShapes Go.ChangeAt Go.RowKit Go.Deep
set_option linter.unusedVariables false
set_option linter.unusedSimpArgs false

theorem str1_cells : Try.prog.cellsOf 9 = 1 := by kernel_rfl
theorem u8_cells : Try.prog.cellsOf 5 = 1 := by kernel_rfl
/-- bytes that are read -/
def byC (n : Nat) : List Value := [.int .u8 n]
def ByIn (w : World) (v : Value) (l : List Nat) : Prop := LIn byC 1 w v l ∧ ∀ n ∈ l, n < 256
section
variable {H : Type} {enc : TypeId × Value → H} {w : World} {base : Nat} {spare : Nat → Bool} {held : Bool}
set_option maxRecDepth 100000 in
theorem open_strs {v : Value} {d : DataW H} {p : List MemPlace} {r : Reach} {b0 : Nat} (hv : Value.okWide Try.prog w r b0 77 v) (h : DataW.Trod enc Try.prog w base spare held 77 v d p) :
    ∃ l : List ByteArray, SsIn w v l := by
  obtain ⟨a, len, cap, rfl⟩ := okWide_slice Try.underlying77 hv
  obtain ⟨fuel, hf⟩ := h
  obtain ⟨h1, h2, h3⟩ := slice_cells Try.underlying77 (by simpa [Value.cells] using hf)
  by_cases hl : 0 < len
  · obtain ⟨b, off, ha, hb, hc⟩ := h3 hl (by rw [str1_cells]; decide)
    obtain ⟨l, hl1, hl2⟩ := list_of (α := ByteArray) (P := fun i x => ∀ j, j < 1 → w.cell? ⟨b, off + (i * 1 + j), none⟩ = (strC x)[j]?) len (fun i hi => by
      obtain ⟨cs, m, y, hy, _, hat⟩ := hc i hi
      obtain ⟨z, hz, _⟩ := DataW.trod_string Try.underlying9 hy
      rw [str1_cells] at hat
      refine ⟨z, fun j hj => ?_⟩
      rw [← Nat.add_assoc, hat j hj, hz]; rfl)
    subst hl1
    exact ⟨l, a, cap, rfl, h1, h2, fun _ => ⟨b, off, ha, hb, hl2⟩⟩
  · have : len = 0 := by omega
    subst this
    exact ⟨[], a, cap, rfl, h1, h2, fun h => absurd h (by simp)⟩
end
end Go.Proofs.Ytmhiolhgofackaa
