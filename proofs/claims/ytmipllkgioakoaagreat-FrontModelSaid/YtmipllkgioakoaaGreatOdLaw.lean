/- ARGUMENTS OF LAWS: ops; opened -/
import Derived.Test.YtmipllkgioakoaaGreatAway
import Derived.Test.YtmipllkgioakoaaGreatEvLaw
namespace Go.Proofs.YtmipllkgioakoaaGreat
open Go.ChangeShapes Go.WideShapes Go.ChangeAt Go.RowKit Go.Deep
set_option linter.unusedVariables false
set_option linter.unusedSimpArgs false

theorem od_cells : Tryz.prog.cellsOf 87 = 3 := by kernel_rfl
section
variable {H : Type} {enc : TypeId × Value → H} {w : World} {base : Nat} {spare : Nat → Bool} {held : Bool}
set_option maxRecDepth 100000 in
theorem od_of {n : Nat} {cs : List Value} {x : DataW H × List MemPlace} (h : DataW.trod enc Tryz.prog w base spare held n 87 cs = some x) :
    ∃ y : Od, ∀ j, j < 3 → cs[j]? = y.cells[j]? := by
  obtain ⟨z0, h0, w0⟩ := field_str Tryz.underlying87 h 0 _ rfl (by kernel_rfl) (by rw [od_cells]; decide) Tryz.underlying9
  obtain ⟨z1, h1, w1⟩ := field_str Tryz.underlying87 h 1 _ rfl (by kernel_rfl) (by rw [od_cells]; decide) Tryz.underlying9
  obtain ⟨z2, h2⟩ := field_bool Tryz.underlying87 h 2 _ rfl (by kernel_rfl) (by rw [od_cells]; decide) Tryz.underlying4
  refine ⟨⟨z0, z1, z2, w0, w1⟩, fun j hj => ?_⟩
  match j, hj with
  | 0, _ => exact h0
  | 1, _ => exact h1
  | 2, _ => exact h2
set_option maxRecDepth 100000 in
/-- ops, of a slice that reads -/
theorem ops_of {fuel : Nat} {u : Value} {x : DataW H × List MemPlace} (h : DataW.trod enc Tryz.prog w base spare held fuel 33 [u] = some x) : ∃ l : List Od, OdIn w u l := by
  obtain ⟨a, len, cap, hu⟩ := Joins.slice_form Tryz.underlying33 h
  simp only [List.cons.injEq, and_true] at hu
  subst hu
  obtain ⟨h1, h2, h3⟩ := slice_cells Tryz.underlying33 h
  by_cases hl : 0 < len
  · obtain ⟨b, off, ha, hb, hc⟩ := h3 hl (by rw [od_cells]; decide)
    obtain ⟨l, hl1, hl2⟩ := list_of (α := Od) (P := fun i x => ∀ j, j < 3 → w.cell? ⟨b, off + (i * 3 + j), none⟩ = x.cells[j]?) len (fun i hi => by
      obtain ⟨cs, m, y, hy, _, hat⟩ := hc i hi
      obtain ⟨x, hx⟩ := od_of hy
      rw [od_cells] at hat
      refine ⟨x, fun j hj => ?_⟩
      rw [← Nat.add_assoc, hat j hj]; exact hx j hj)
    subst hl1
    exact ⟨l, a, cap, rfl, h1, h2, fun _ => ⟨b, off, ha, hb, hl2⟩⟩
  · have : len = 0 := by omega
    subst this
    exact ⟨[], a, cap, rfl, h1, h2, fun h => absurd h (by simp)⟩
set_option maxRecDepth 100000 in
theorem open_op {v : Value} {d : DataW H} {p : List MemPlace} {r : Reach} {b0 : Nat} (hv : Value.okWide Tryz.prog w r b0 87 v) (h : DataW.Trod enc Tryz.prog w base spare held 87 v d p) :
    ∃ x : Od, v = .agg #[.string x.key, .string x.val, .bool x.del] := by
  obtain ⟨c0, c1, c2, y0, y1, y2, m, rfl, rfl, rfl, h0, h1, h2⟩ := Joins.open_agg3 Tryz.underlying87 (by kernel_rfl) od_cells hv h
  obtain ⟨f, e0, _, w0⟩ := DataW.trod_string Tryz.underlying9 h0
  obtain ⟨t, e1, _, w1⟩ := DataW.trod_string Tryz.underlying9 h1
  obtain ⟨b, e2, _⟩ := DataW.trod_bool Tryz.underlying4 h2
  simp only [List.cons.injEq, and_true] at e0 e1 e2
  subst e0 e1 e2
  exact ⟨⟨f, t, b, w0, w1⟩, rfl⟩
end
end Go.Proofs.YtmipllkgioakoaaGreat
