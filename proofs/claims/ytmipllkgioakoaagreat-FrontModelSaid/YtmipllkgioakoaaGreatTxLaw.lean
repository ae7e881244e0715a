/- ARGUMENTS OF THE LAWS OF txn: requests, compares; opened -/
import Derived.Test.YtmipllkgioakoaaGreatTxAt
import Derived.Test.YtmipllkgioakoaaGreatOdLaw
namespace Go.Proofs.YtmipllkgioakoaaGreat
open Go.ChangeShapes Go.WideShapes Go.ChangeAt Go.RowKit Go.Deep
set_option linter.unusedVariables false
set_option linter.unusedSimpArgs false

theorem cm_cells : Tryz.prog.cellsOf 126 = 4 := by kernel_rfl
theorem rq_cells : Tryz.prog.cellsOf 35 = 7 := by kernel_rfl
theorem array7 {α : Type} {cs : Array α} (h : cs.size = 7) : ∃ c0 c1 c2 c3 c4 c5 c6, cs = #[c0, c1, c2, c3, c4, c5, c6] := by
  obtain ⟨l⟩ := cs
  match l, h with
  | [c0, c1, c2, c3, c4, c5, c6], _ => exact ⟨c0, c1, c2, c3, c4, c5, c6, rfl⟩
section
variable {H : Type} {enc : TypeId × Value → H} {w : World} {base : Nat} {spare : Nat → Bool} {held : Bool}
set_option maxRecDepth 100000 in
theorem cm_of {n : Nat} {cs : List Value} {x : DataW H × List MemPlace} (h : DataW.trod enc Tryz.prog w base spare held n 126 cs = some x) :
    ∃ y : Cm, ∀ j, j < 4 → cs[j]? = y.cells[j]? := by
  obtain ⟨z0, h0, _⟩ := field_int Tryz.underlying126 h 0 _ rfl (by kernel_rfl) (by rw [cm_cells]; decide) Tryz.underlying3
  obtain ⟨z1, h1, w1⟩ := field_str Tryz.underlying126 h 1 _ rfl (by kernel_rfl) (by rw [cm_cells]; decide) Tryz.underlying9
  obtain ⟨z2, h2, w2⟩ := field_str Tryz.underlying126 h 2 _ rfl (by kernel_rfl) (by rw [cm_cells]; decide) Tryz.underlying9
  obtain ⟨z3, h3, _⟩ := field_int Tryz.underlying126 h 3 _ rfl (by kernel_rfl) (by rw [cm_cells]; decide) Tryz.underlying3
  refine ⟨⟨z0, z1, z2, z3, w1, w2⟩, fun j hj => ?_⟩
  match j, hj with
  | 0, _ => exact h0
  | 1, _ => exact h1
  | 2, _ => exact h2
  | 3, _ => exact h3
set_option maxRecDepth 100000 in
/-- compares, of a slice that reads -/
theorem cms_of {fuel : Nat} {u : Value} {x : DataW H × List MemPlace} (h : DataW.trod enc Tryz.prog w base spare held fuel 32 [u] = some x) : ∃ l : List Cm, CmIn w u l := by
  obtain ⟨a, len, cap, hu⟩ := Joins.slice_form Tryz.underlying32 h
  simp only [List.cons.injEq, and_true] at hu
  subst hu
  obtain ⟨h1, h2, h3⟩ := slice_cells Tryz.underlying32 h
  by_cases hl : 0 < len
  · obtain ⟨b, off, ha, hb, hc⟩ := h3 hl (by rw [cm_cells]; decide)
    obtain ⟨l, hl1, hl2⟩ := list_of (α := Cm) (P := fun i x => ∀ j, j < 4 → w.cell? ⟨b, off + (i * 4 + j), none⟩ = x.cells[j]?) len (fun i hi => by
      obtain ⟨cs, m, y, hy, _, hat⟩ := hc i hi
      obtain ⟨x, hx⟩ := cm_of hy
      rw [cm_cells] at hat
      refine ⟨x, fun j hj => ?_⟩
      rw [← Nat.add_assoc, hat j hj]; exact hx j hj)
    subst hl1
    exact ⟨l, a, cap, rfl, h1, h2, fun _ => ⟨b, off, ha, hb, hl2⟩⟩
  · have : len = 0 := by omega
    subst this
    exact ⟨[], a, cap, rfl, h1, h2, fun h => absurd h (by simp)⟩
set_option maxRecDepth 100000 in
theorem open_cms {v : Value} {d : DataW H} {p : List MemPlace} {r : Reach} {b0 : Nat} (hv : Value.okWide Tryz.prog w r b0 32 v) (h : DataW.Trod enc Tryz.prog w base spare held 32 v d p) :
    ∃ l : List Cm, CmIn w v l := by
  obtain ⟨a, len, cap, rfl⟩ := okWide_slice Tryz.underlying32 hv
  obtain ⟨fuel, hf⟩ := h
  exact cms_of (by simpa [Value.cells] using hf)
set_option maxRecDepth 100000 in
theorem open_ops {v : Value} {d : DataW H} {p : List MemPlace} {r : Reach} {b0 : Nat} (hv : Value.okWide Tryz.prog w r b0 33 v) (h : DataW.Trod enc Tryz.prog w base spare held 33 v d p) :
    ∃ l : List Od, OdIn w v l := by
  obtain ⟨a, len, cap, rfl⟩ := okWide_slice Tryz.underlying33 hv
  obtain ⟨fuel, hf⟩ := h
  exact ops_of (by simpa [Value.cells] using hf)
set_option maxRecDepth 100000 in
theorem open_req {v : Value} {d : DataW H} {p : List MemPlace} {r : Reach} {b0 : Nat} (hv : Value.okWide Tryz.prog w r b0 35 v) (h : DataW.Trod enc Tryz.prog w base spare held 35 v d p) :
    ∃ (q : Rq) (cv tv ev : Value), v = .agg #[.int .i64 q.kind, .string q.f, .string q.t, .int .i64 q.rev, cv, tv, ev] ∧ RqIn w q cv tv ev := by
  obtain ⟨cs, rfl, hsz⟩ := okWide_struct Tryz.underlying35 hv
  obtain ⟨c0, c1, c2, c3, c4, c5, c6, rfl⟩ := array7 (hsz.trans rq_cells)
  obtain ⟨fuel, hf⟩ := h
  have hf : DataW.trod enc Tryz.prog w base spare held fuel 35 [c0, c1, c2, c3, c4, c5, c6] = some (d, p) := by simpa [Value.cells] using hf
  obtain ⟨z0, h0, _⟩ := field_int Tryz.underlying35 hf 0 _ rfl (by kernel_rfl) (by rw [rq_cells]; decide) Tryz.underlying3
  obtain ⟨z3, h3, _⟩ := field_int Tryz.underlying35 hf 2 _ rfl (by kernel_rfl) (by rw [rq_cells]; decide) Tryz.underlying3
  obtain ⟨v4, y4, m4, h4, t4⟩ := field_cell Tryz.underlying35 hf 3 _ rfl (by kernel_rfl) (by rw [rq_cells]; decide)
  obtain ⟨v5, y5, m5, h5, t5⟩ := field_cell Tryz.underlying35 hf 4 _ rfl (by kernel_rfl) (by rw [rq_cells]; decide)
  obtain ⟨v6, y6, m6, h6, t6⟩ := field_cell Tryz.underlying35 hf 5 _ rfl (by kernel_rfl) (by rw [rq_cells]; decide)
  obtain ⟨xs, m, _, _, _, hxs, hfi⟩ := DataW.trod_struct Tryz.underlying35 hf
  have hr := hfi 1 _ rfl
  have h2 : xs[1]? = some (xs[1]'(by rw [hxs]; decide)) := List.getElem?_eq_getElem _
  rw [h2] at hr
  obtain ⟨z1, h1, w1⟩ := field_str Tryz.underlying31 hr 0 _ rfl (by kernel_rfl) (by rw [range_cells]; decide) Tryz.underlying9
  obtain ⟨z2, h2, w2⟩ := field_str Tryz.underlying31 hr 1 _ rfl (by kernel_rfl) (by rw [range_cells]; decide) Tryz.underlying9
  have e0 : c0 = .int .i64 z0 := by simpa using h0
  have e3 : c3 = .int .i64 z3 := by simpa using h3
  have e4 : c4 = v4 := by simpa using h4
  have e5 : c5 = v5 := by simpa using h5
  have e6 : c6 = v6 := by simpa using h6
  have rc : Tryz.prog.cellsOf 31 = 2 := range_cells
  have e1 : c1 = .string z1 := by simpa [rc] using h1
  have e2 : c2 = .string z2 := by simpa [rc] using h2
  subst e0 e1 e2 e3 e4 e5 e6
  obtain ⟨l4, g4⟩ := cms_of t4
  obtain ⟨l5, g5⟩ := ops_of t5
  obtain ⟨l6, g6⟩ := ops_of t6
  exact ⟨⟨z0, z1, z2, z3, l4, l5, l6⟩, c4, c5, c6, rfl, g4, g5, g6, w1, w2⟩
end
end Go.Proofs.YtmipllkgioakoaaGreat
