/- ARGUMENTS OF THE LAWS OF model: requests; opened -/
import Derived.Test.YtmipllkgioakoaaGreatMdAt
import Derived.Test.YtmipllkgioakoaaGreatTxLaw
namespace Go.Proofs.YtmipllkgioakoaaGreat
open Go.ChangeShapes Go.WideShapes Go.ChangeAt Go.RowKit Go.Deep
set_option linter.unusedVariables false
set_option linter.unusedSimpArgs false

theorem arr3 {α : Type} {cs : Array α} (h : cs.size = 3) : ∃ c0 c1 c2, cs = #[c0, c1, c2] := by
  obtain ⟨l⟩ := cs
  match l, h with
  | [a, b, c], _ => exact ⟨a, b, c, rfl⟩
section
variable {H : Type} {enc : TypeId × Value → H} {w : World} {base : Nat} {spare : Nat → Bool} {held : Bool}
set_option maxRecDepth 100000 in
theorem rv_of {n : Nat} {cs : List Value} {x : DataW H × List MemPlace} (hf : DataW.trod enc Tryz.prog w base spare held n 35 cs = some x) :
    ∃ y : Rv, RqIn w y.q y.c y.t y.e ∧ ∀ j, j < 7 → cs[j]? = y.cells[j]? := by
  obtain ⟨z0, h0, _⟩ := field_int Tryz.underlying35 hf 0 _ rfl (by kernel_rfl) (by rw [rq_cells]; decide) Tryz.underlying3
  obtain ⟨z3, h3, _⟩ := field_int Tryz.underlying35 hf 2 _ rfl (by kernel_rfl) (by rw [rq_cells]; decide) Tryz.underlying3
  obtain ⟨v4, y4, m4, h4, t4⟩ := field_cell Tryz.underlying35 hf 3 _ rfl (by kernel_rfl) (by rw [rq_cells]; decide)
  obtain ⟨v5, y5, m5, h5, t5⟩ := field_cell Tryz.underlying35 hf 4 _ rfl (by kernel_rfl) (by rw [rq_cells]; decide)
  obtain ⟨v6, y6, m6, h6, t6⟩ := field_cell Tryz.underlying35 hf 5 _ rfl (by kernel_rfl) (by rw [rq_cells]; decide)
  obtain ⟨xs, m, _, _, _, hxs, hfi⟩ := DataW.trod_struct Tryz.underlying35 hf
  have hr := hfi 1 _ rfl
  have h2 : xs[1]? = some (xs[1]'(by rw [hxs]; decide)) := List.getElem?_eq_getElem _
  rw [h2] at hr
  obtain ⟨z1, h1, w1⟩ := field_str Tryz.underlying31 hr 0 _ rfl (by kernel_rfl) (by rw [range_cells]; decide) Tryz.underlying9
  obtain ⟨z2, h2, w2⟩ := field_str Tryz.underlying31 hr 1 _ rfl (by kernel_rfl) (by rw [range_cells]; decide) Tryz.underlying9
  have rc : Tryz.prog.cellsOf 31 = 2 := range_cells
  obtain ⟨l4, g4⟩ := cms_of t4
  obtain ⟨l5, g5⟩ := ops_of t5
  obtain ⟨l6, g6⟩ := ops_of t6
  refine ⟨⟨⟨z0, z1, z2, z3, l4, l5, l6⟩, v4, v5, v6⟩, ⟨g4, g5, g6, w1, w2⟩, fun j hj => ?_⟩
  have e1 : cs[1]? = some (.string z1) := by
    simpa [rc, List.getElem?_take, List.getElem?_drop] using h1
  have e2 : cs[2]? = some (.string z2) := by
    simpa [rc, List.getElem?_take, List.getElem?_drop] using h2
  match j, hj with
  | 0, _ => exact h0
  | 1, _ => exact e1
  | 2, _ => exact e2
  | 3, _ => exact h3
  | 4, _ => exact h4
  | 5, _ => exact h5
  | 6, _ => exact h6
set_option maxRecDepth 100000 in
theorem open_reqs {v : Value} {d : DataW H} {p : List MemPlace} {r : Reach} {b0 : Nat} (hv : Value.okWide Tryz.prog w r b0 22 v) (h : DataW.Trod enc Tryz.prog w base spare held 22 v d p) :
    ∃ l : List Rv, RvIn w v l := by
  obtain ⟨a, len, cap, rfl⟩ := okWide_slice Tryz.underlying22 hv
  obtain ⟨fuel, hf⟩ := h
  obtain ⟨h1, h2, h3⟩ := slice_cells Tryz.underlying22 (by simpa [Value.cells] using hf)
  by_cases hl : 0 < len
  · obtain ⟨b, off, ha, hb, hc⟩ := h3 hl (by rw [rq_cells]; decide)
    obtain ⟨l, hl1, hl2⟩ := list_of (α := Rv) (P := fun i x => RqIn w x.q x.c x.t x.e ∧ ∀ j, j < 7 → w.cell? ⟨b, off + (i * 7 + j), none⟩ = x.cells[j]?) len (fun i hi => by
      obtain ⟨cs, m, y, hy, _, hat⟩ := hc i hi
      obtain ⟨x, hx0, hx⟩ := rv_of hy
      rw [rq_cells] at hat
      refine ⟨x, hx0, fun j hj => ?_⟩
      rw [← Nat.add_assoc, hat j hj]; exact hx j hj)
    subst hl1
    refine ⟨l, ⟨a, cap, rfl, h1, h2, fun _ => ⟨b, off, ha, hb, fun i x hx => (hl2 i x hx).2⟩⟩, fun d hd => ?_⟩
    obtain ⟨i, hi⟩ := List.mem_iff_getElem?.1 hd
    exact (hl2 i d hi).1
  · have : len = 0 := by omega
    subst this
    exact ⟨[], ⟨a, cap, rfl, h1, h2, fun h => absurd h (by simp)⟩, by intro d hd; cases hd⟩
end
end Go.Proofs.YtmipllkgioakoaaGreat
