/- ARGUMENTS OF THE LAWS OF cursor: watches, heads, rows of events, deeds; opened -/
import Derived.Test.YtmbfcdoemcffpaaCuRef
import Derived.Test.YtmbfcdoemcffpaaHistDo
import Derived.Test.YtmbfcdoemcffpaaOdLaw
namespace Go.Proofs.Ytmbfcdoemcffpaa
open Go.ChangeShapes Go.WideShapes Go.ChangeAt Go.RowKit Go.Deep
set_option linter.unusedVariables false
set_option linter.unusedSimpArgs false

theorem cd_cells : Try.prog.cellsOf 55 = 3 := by kernel_rfl
section
variable {H : Type} {enc : TypeId × Value → H} {w : World} {base : Nat} {spare : Nat → Bool} {held : Bool}
set_option maxRecDepth 100000 in
theorem cd_of {n : Nat} {cs : List Value} {x : DataW H × List MemPlace} (h : DataW.trod enc Try.prog w base spare held n 55 cs = some x) :
    ∃ y : Dd, OdIn w y.u y.ops ∧ ∀ j, j < 3 → cs[j]? = y.cells[j]? := by
  obtain ⟨z0, h0, _⟩ := field_int Try.underlying55 h 0 _ rfl (by kernel_rfl) (by rw [cd_cells]; decide) Try.underlying3
  obtain ⟨v, y, m, h1, hy⟩ := field_cell Try.underlying55 h 1 _ rfl (by kernel_rfl) (by rw [cd_cells]; decide)
  obtain ⟨z2, h2, _⟩ := field_int Try.underlying55 h 2 _ rfl (by kernel_rfl) (by rw [cd_cells]; decide) Try.underlying3
  obtain ⟨l, hl⟩ := ops_of hy
  refine ⟨⟨z0, v, z2, l⟩, hl, fun j hj => ?_⟩
  match j, hj with
  | 0, _ => exact h0
  | 1, _ => exact h1
  | 2, _ => exact h2
set_option maxRecDepth 100000 in
theorem cdeeds_of {fuel : Nat} {u : Value} {x : DataW H × List MemPlace} (h : DataW.trod enc Try.prog w base spare held fuel 48 [u] = some x) : ∃ l : List Dd, DdIn w u l := by
  obtain ⟨a, len, cap, hu⟩ := Joins.slice_form Try.underlying48 h
  simp only [List.cons.injEq, and_true] at hu
  subst hu
  obtain ⟨h1, h2, h3⟩ := slice_cells Try.underlying48 h
  by_cases hl : 0 < len
  · obtain ⟨b, off, ha, hb, hc⟩ := h3 hl (by rw [cd_cells]; decide)
    obtain ⟨l, hl1, hl2⟩ := list_of (α := Dd) (P := fun i x => OdIn w x.u x.ops ∧ ∀ j, j < 3 → w.cell? ⟨b, off + (i * 3 + j), none⟩ = x.cells[j]?) len (fun i hi => by
      obtain ⟨cs, m, y, hy, _, hat⟩ := hc i hi
      obtain ⟨x, hx0, hx⟩ := cd_of hy
      rw [cd_cells] at hat
      refine ⟨x, hx0, fun j hj => ?_⟩
      rw [← Nat.add_assoc, hat j hj]; exact hx j hj)
    subst hl1
    refine ⟨l, ⟨a, cap, rfl, h1, h2, fun _ => ⟨b, off, ha, hb, fun i x hx => (hl2 i x hx).2⟩⟩, fun d hd => ?_⟩
    obtain ⟨i, hi⟩ := List.mem_iff_getElem?.1 hd
    exact (hl2 i d hi).1
  · have : len = 0 := by omega
    subst this
    exact ⟨[], ⟨a, cap, rfl, h1, h2, fun h => absurd h (by simp)⟩, by intro d hd; cases hd⟩
set_option maxRecDepth 100000 in
theorem open_cdeeds {v : Value} {d : DataW H} {p : List MemPlace} {r : Reach} {b0 : Nat} (hv : Value.okWide Try.prog w r b0 48 v) (h : DataW.Trod enc Try.prog w base spare held 48 v d p) :
    ∃ l : List Dd, DdIn w v l := by
  obtain ⟨a, len, cap, rfl⟩ := okWide_slice Try.underlying48 hv
  obtain ⟨fuel, hf⟩ := h
  exact cdeeds_of (by simpa [Value.cells] using hf)
theorem cu_cells : Try.prog.cellsOf 25 = 5 := by kernel_rfl
theorem arr5 {α : Type} {cs : Array α} (h : cs.size = 5) : ∃ c0 c1 c2 c3 c4, cs = #[c0, c1, c2, c3, c4] := by
  obtain ⟨l⟩ := cs
  match l, h with
  | [a, b, c, d, e], _ => exact ⟨a, b, c, d, e, rfl⟩
set_option maxRecDepth 100000 in
theorem open_cu {v : Value} {d : DataW H} {p : List MemPlace} {r : Reach} {b0 : Nat} (hv : Value.okWide Try.prog w r b0 25 v) (h : DataW.Trod enc Try.prog w base spare held 25 v d p) :
    ∃ C : Cu, v = C.val ∧ C.f.size ≤ maxLen ∧ C.t.size ≤ maxLen ∧ (Lit.int .i64 C.next).wf = true := by
  obtain ⟨cs, rfl, hsz⟩ := okWide_struct Try.underlying25 hv
  obtain ⟨c0, c1, c2, c3, c4, rfl⟩ := arr5 (hsz.trans cu_cells)
  obtain ⟨fuel, hf⟩ := h
  have hf : DataW.trod enc Try.prog w base spare held fuel 25 [c0, c1, c2, c3, c4] = some (d, p) := by simpa [Value.cells] using hf
  obtain ⟨z2, h2, w2⟩ := field_int Try.underlying25 hf 1 _ rfl (by kernel_rfl) (by rw [cu_cells]; decide) Try.underlying3
  obtain ⟨z3, h3⟩ := field_bool Try.underlying25 hf 2 _ rfl (by kernel_rfl) (by rw [cu_cells]; decide) Try.underlying4
  obtain ⟨z4, h4⟩ := field_bool Try.underlying25 hf 3 _ rfl (by kernel_rfl) (by rw [cu_cells]; decide) Try.underlying4
  obtain ⟨xs, m, _, _, _, hxs, hfi⟩ := DataW.trod_struct Try.underlying25 hf
  have hr := hfi 0 _ rfl
  have h0' : xs[0]? = some (xs[0]'(by rw [hxs]; decide)) := List.getElem?_eq_getElem _
  rw [h0'] at hr
  obtain ⟨z0, h0, w0⟩ := field_str Try.underlying23 hr 0 _ rfl (by kernel_rfl) (by rw [range_cells]; decide) Try.underlying9
  obtain ⟨z1, h1, w1⟩ := field_str Try.underlying23 hr 1 _ rfl (by kernel_rfl) (by rw [range_cells]; decide) Try.underlying9
  have rc : Try.prog.cellsOf 23 = 2 := range_cells
  have e0 : c0 = .string z0 := by simpa [rc] using h0
  have e1 : c1 = .string z1 := by simpa [rc] using h1
  have e2 : c2 = .int .i64 z2 := by simpa [rc] using h2
  have e3 : c3 = .bool z3 := by simpa [rc] using h3
  have e4 : c4 = .bool z4 := by simpa [rc] using h4
  subst e0 e1 e2 e3 e4
  exact ⟨⟨z0, z1, z2, z3, z4⟩, rfl, w0, w1, w2⟩
theorem arr2 {α : Type} {cs : Array α} (h : cs.size = 2) : ∃ c0 c1, cs = #[c0, c1] := by
  obtain ⟨l⟩ := cs
  match l, h with
  | [a, b], _ => exact ⟨a, b, rfl⟩
set_option maxRecDepth 100000 in
theorem open_two {v : Value} {d : DataW H} {p : List MemPlace} {r : Reach} {b0 : Nat} (hv : Value.okWide Try.prog w r b0 73 v) (h : DataW.Trod enc Try.prog w base spare held 73 v d p) :
    ∃ (u0 u1 : Value) (l0 l1 : List Dd), v = .agg #[u0, u1] ∧ DdIn w u0 l0 ∧ DdIn w u1 l1 := by
  have hc2 : Try.prog.cellsOf 73 = 2 := by kernel_rfl
  have hc1 : Try.prog.cellsOf 48 = 1 := by kernel_rfl
  have hform : ∃ cs, v = .agg cs ∧ cs.size = Try.prog.cellsOf 73 := by
    have ha : Try.prog.underlying 73 = some (.array 2 48) := Try.underlying73
    simp only [Value.okWide, ha] at hv
    obtain ⟨cs, h1, h2, _⟩ := hv
    exact ⟨cs, h1, h2⟩
  obtain ⟨cs, rfl, hsz⟩ := hform
  obtain ⟨c0, c1, rfl⟩ := arr2 (hsz.trans hc2)
  obtain ⟨fuel, hf⟩ := h
  obtain ⟨xs, m, _, _, _, hl, hi⟩ := DataW.trod_array Try.underlying73 hf
  have h0 := hi 0 (by decide)
  have h1 := hi 1 (by decide)
  have x0 : xs[0]? = some (xs[0]'(by omega)) := List.getElem?_eq_getElem _
  have x1 : xs[1]? = some (xs[1]'(by omega)) := List.getElem?_eq_getElem _
  rw [x0, hc1] at h0
  rw [x1, hc1] at h1
  obtain ⟨l0, hl0⟩ := cdeeds_of (u := c0) (by simpa [Value.cells] using h0)
  obtain ⟨l1, hl1⟩ := cdeeds_of (u := c1) (by simpa [Value.cells] using h1)
  exact ⟨c0, c1, l0, l1, rfl, hl0, hl1⟩
theorem head_cells : Try.prog.cellsOf 27 = 3 := by kernel_rfl
set_option maxRecDepth 100000 in
theorem open_head {v : Value} {d : DataW H} {p : List MemPlace} {r : Reach} {b0 : Nat} (hv : Value.okWide Try.prog w r b0 27 v) (h : DataW.Trod enc Try.prog w base spare held 27 v d p) :
    ∃ x y z : Int, v = headV x y z ∧ (Lit.int .i64 y).wf = true ∧ (Lit.int .i64 z).wf = true := by
  obtain ⟨c0, c1, c2, y0, y1, y2, m, rfl, rfl, rfl, h0, h1, h2⟩ := Joins.open_agg3 Try.underlying27 (by kernel_rfl) head_cells hv h
  obtain ⟨f, e0, _, w0⟩ := DataW.trod_int Try.underlying3 h0
  obtain ⟨t, e1, _, w1⟩ := DataW.trod_int Try.underlying3 h1
  obtain ⟨u, e2, _, w2⟩ := DataW.trod_int Try.underlying3 h2
  simp only [List.cons.injEq, and_true] at e0 e1 e2
  subst e0 e1 e2
  exact ⟨f, t, u, rfl, w1, w2⟩
set_option maxRecDepth 100000 in
/-- events, of a slice that reads -/
theorem evs_of {fuel : Nat} {u : Value} {x : DataW H × List MemPlace} (h : DataW.trod enc Try.prog w base spare held fuel 30 [u] = some x) : ∃ l : List Ev, EvIn w u l := by
  obtain ⟨a, len, cap, hu⟩ := Joins.slice_form Try.underlying30 h
  simp only [List.cons.injEq, and_true] at hu
  subst hu
  obtain ⟨h1, h2, h3⟩ := slice_cells Try.underlying30 h
  by_cases hl : 0 < len
  · obtain ⟨b, off, ha, hb, hc⟩ := h3 hl (by rw [ev_cells]; decide)
    obtain ⟨l, hl1, hl2⟩ := list_of (α := Ev) (P := fun i x => ∀ j, j < 4 → w.cell? ⟨b, off + (i * 4 + j), none⟩ = x.cells[j]?) len (fun i hi => by
      obtain ⟨cs, m, y, hy, _, hat⟩ := hc i hi
      obtain ⟨x, hx⟩ := ev_of hy
      rw [ev_cells] at hat
      refine ⟨x, fun j hj => ?_⟩
      rw [← Nat.add_assoc, hat j hj]; exact hx j hj)
    subst hl1
    exact ⟨l, a, cap, rfl, h1, h2, fun _ => ⟨b, off, ha, hb, hl2⟩⟩
  · have : len = 0 := by omega
    subst this
    exact ⟨[], a, cap, rfl, h1, h2, fun h => absurd h (by simp)⟩
theorem evsl_cells : Try.prog.cellsOf 30 = 1 := by kernel_rfl
set_option maxRecDepth 100000 in
theorem open_rows {v : Value} {d : DataW H} {p : List MemPlace} {r : Reach} {b0 : Nat} (hv : Value.okWide Try.prog w r b0 28 v) (h : DataW.Trod enc Try.prog w base spare held 28 v d p) :
    ∃ l : List (List Ev), RowsIn w v l := by
  obtain ⟨a, len, cap, rfl⟩ := okWide_slice Try.underlying28 hv
  obtain ⟨fuel, hf⟩ := h
  obtain ⟨h1, h2, h3⟩ := slice_cells Try.underlying28 (by simpa [Value.cells] using hf)
  by_cases hl : 0 < len
  · obtain ⟨b, off, ha, hb, hc⟩ := h3 hl (by rw [evsl_cells]; decide)
    obtain ⟨l, hl1, hl2⟩ := list_of (α := Value × List Ev) (P := fun i x => w.cell? ⟨b, off + i, none⟩ = some x.1 ∧ EvIn w x.1 x.2) len (fun i hi => by
      obtain ⟨cs, m, y, hy, hz, hat⟩ := hc i hi
      rw [evsl_cells] at hat hz
      match cs, hz with
      | [u], _ =>
        obtain ⟨l, hl⟩ := evs_of hy
        refine ⟨(u, l), ?_, hl⟩
        have := hat 0 (by decide)
        simpa using this)
    subst hl1
    refine ⟨l.map (·.2), l.map (·.1), by simp, ⟨a, cap, by simp, by simpa using h1, h2, fun _ => ⟨b, off, ha, hb, fun i u hu => ?_⟩⟩, fun i u r hu hr => ?_⟩
    · rw [List.getElem?_map] at hu
      cases hi : l[i]? with
      | none => rw [hi] at hu; cases hu
      | some x => rw [hi] at hu; cases hu; exact (hl2 i x hi).1
    · rw [List.getElem?_map] at hu hr
      cases hi : l[i]? with
      | none => rw [hi] at hu; cases hu
      | some x => rw [hi] at hu hr; cases hu; cases hr; exact (hl2 i x hi).2
  · have : len = 0 := by omega
    subst this
    exact ⟨[], [], rfl, ⟨a, cap, rfl, h1, h2, fun h => absurd h (by simp)⟩, by simp⟩
end
end Go.Proofs.Ytmbfcdoemcffpaa
