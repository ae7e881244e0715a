/- ARGUMENTS OF THE LAWS OF order, opened: calls, strings, bytes -/
import Derived.Test.YtmhiolhgofackaaGreatOrAt
import Derived.Test.YtmhiolhgofackaaGreatLaw
namespace Go.Proofs.YtmhiolhgofackaaGreat
open Go.ChangeShapes Go.WideShapes Go.ChangeAt Go.RowKit Go.Deep
set_option linter.unusedVariables false
set_option linter.unusedSimpArgs false

theorem rca_cells : Tryz.prog.cellsOf 44 = 5 := by kernel_rfl
theorem str1_cells : Tryz.prog.cellsOf 9 = 1 := by kernel_rfl
theorem u8_cells : Tryz.prog.cellsOf 5 = 1 := by kernel_rfl
/-- bytes that are read -/
def byC (n : Nat) : List Value := [.int .u8 n]
def ByIn (w : World) (v : Value) (l : List Nat) : Prop := LIn byC 1 w v l ∧ ∀ n ∈ l, n < 256
section
variable {H : Type} {enc : TypeId × Value → H} {w : World} {base : Nat} {spare : Nat → Bool} {held : Bool}
set_option maxRecDepth 100000 in
theorem ca_of {n : Nat} {cs : List Value} {x : DataW H × List MemPlace} (h : DataW.trod enc Tryz.prog w base spare held n 44 cs = some x) :
    ∃ y : Ca, ∀ j, j < 5 → cs[j]? = y.cells[j]? := by
  obtain ⟨z0, h0, _⟩ := field_int Tryz.underlying44 h 0 _ rfl (by kernel_rfl) (by rw [rca_cells]; decide) Tryz.underlying3
  obtain ⟨z1, h1, w1⟩ := field_str Tryz.underlying44 h 1 _ rfl (by kernel_rfl) (by rw [rca_cells]; decide) Tryz.underlying9
  obtain ⟨z2, h2⟩ := field_bool Tryz.underlying44 h 2 _ rfl (by kernel_rfl) (by rw [rca_cells]; decide) Tryz.underlying4
  obtain ⟨z3, h3, _⟩ := field_int Tryz.underlying44 h 3 _ rfl (by kernel_rfl) (by rw [rca_cells]; decide) Tryz.underlying3
  obtain ⟨z4, h4, _⟩ := field_int Tryz.underlying44 h 4 _ rfl (by kernel_rfl) (by rw [rca_cells]; decide) Tryz.underlying3
  refine ⟨⟨z0, z1, z2, z3, z4⟩, fun j hj => ?_⟩
  match j, hj with
  | 0, _ => exact h0
  | 1, _ => exact h1
  | 2, _ => exact h2
  | 3, _ => exact h3
  | 4, _ => exact h4
set_option maxRecDepth 100000 in
theorem open_ca {v : Value} {d : DataW H} {p : List MemPlace} {r : Reach} {b0 : Nat} (hv : Value.okWide Tryz.prog w r b0 44 v) (h : DataW.Trod enc Tryz.prog w base spare held 44 v d p) :
    ∃ c : Ca, v = c.agg := by
  obtain ⟨cs, rfl, hsz⟩ := okWide_struct Tryz.underlying44 hv
  obtain ⟨fuel, hf⟩ := h
  obtain ⟨s, h1⟩ := ca_of (cs := cs.toList) (by simpa [Value.cells] using hf)
  refine ⟨s, ?_⟩
  unfold Ca.agg
  congr 1
  apply Array.ext_getElem?
  intro i
  have hs5 : cs.size = 5 := hsz.trans rca_cells
  by_cases hi : i < 5
  · have := h1 i hi
    rw [Array.getElem?_toList] at this
    rw [this]
    match i, hi with
    | 0, _ => rfl
    | 1, _ => rfl
    | 2, _ => rfl
    | 3, _ => rfl
    | 4, _ => rfl
  · rw [Array.getElem?_eq_none (by omega), Array.getElem?_eq_none (by simp; omega)]
set_option maxRecDepth 100000 in
theorem open_strs {v : Value} {d : DataW H} {p : List MemPlace} {r : Reach} {b0 : Nat} (hv : Value.okWide Tryz.prog w r b0 22 v) (h : DataW.Trod enc Tryz.prog w base spare held 22 v d p) :
    ∃ l : List ByteArray, SsIn w v l := by
  obtain ⟨a, len, cap, rfl⟩ := okWide_slice Tryz.underlying22 hv
  obtain ⟨fuel, hf⟩ := h
  obtain ⟨h1, h2, h3⟩ := slice_cells Tryz.underlying22 (by simpa [Value.cells] using hf)
  by_cases hl : 0 < len
  · obtain ⟨b, off, ha, hb, hc⟩ := h3 hl (by rw [str1_cells]; decide)
    obtain ⟨l, hl1, hl2⟩ := list_of (α := ByteArray) (P := fun i x => ∀ j, j < 1 → w.cell? ⟨b, off + (i * 1 + j), none⟩ = (strC x)[j]?) len (fun i hi => by
      obtain ⟨cs, m, y, hy, _, hat⟩ := hc i hi
      obtain ⟨z, hz, _⟩ := DataW.trod_string Tryz.underlying9 hy
      rw [str1_cells] at hat
      refine ⟨z, fun j hj => ?_⟩
      rw [← Nat.add_assoc, hat j hj, hz]; rfl)
    subst hl1
    exact ⟨l, a, cap, rfl, h1, h2, fun _ => ⟨b, off, ha, hb, hl2⟩⟩
  · have : len = 0 := by omega
    subst this
    exact ⟨[], a, cap, rfl, h1, h2, fun h => absurd h (by simp)⟩
end
end Go.Proofs.YtmhiolhgofackaaGreat
