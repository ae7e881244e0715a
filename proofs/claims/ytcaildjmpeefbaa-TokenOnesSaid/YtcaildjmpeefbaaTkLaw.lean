/- ARGUMENTS OF LAYER 9's LAWS: tokens -/
import Derived.Test.YtcaildjmpeefbaaTk
import Derived.Test.YtcaildjmpeefbaaEvLaw
namespace Go.Proofs.Ytcaildjmpeefbaa
open Go.ChangeShapes Go.WideShapes Go.ChangeAt Go.RowKit Go.Deep
set_option linter.unusedVariables false
set_option linter.unusedSimpArgs false

section
variable {H : Type} {enc : TypeId × Value → H} {w : World} {base : Nat} {spare : Nat → Bool} {held : Bool}
theorem tk_cells : Try.prog.cellsOf 25 = 4 := by kernel_rfl
theorem arr4 {α : Type} {cs : Array α} (h : cs.size = 4) : ∃ c0 c1 c2 c3, cs = #[c0, c1, c2, c3] := by
  obtain ⟨l⟩ := cs
  match l, h with
  | [a, b, c, d], _ => exact ⟨a, b, c, d, rfl⟩
set_option maxRecDepth 100000 in
theorem open_tok {v : Value} {d : DataW H} {p : List MemPlace} {r : Reach} {b0 : Nat} (hv : Value.okWide Try.prog w r b0 25 v) (h : DataW.Trod enc Try.prog w base spare held 25 v d p) :
    ∃ T : Tk, v = .agg #[.string T.f, .string T.t, .int .i64 T.next, .bool T.once] ∧ T.f.size ≤ maxLen ∧ T.t.size ≤ maxLen ∧ (Lit.int .i64 T.next).wf = true := by
  obtain ⟨cs, rfl, hsz⟩ := okWide_struct Try.underlying25 hv
  obtain ⟨c0, c1, c2, c3, rfl⟩ := arr4 (hsz.trans tk_cells)
  obtain ⟨fuel, hf⟩ := h
  have hf : DataW.trod enc Try.prog w base spare held fuel 25 [c0, c1, c2, c3] = some (d, p) := by simpa [Value.cells] using hf
  obtain ⟨z2, h2, w2⟩ := field_int Try.underlying25 hf 1 _ rfl (by kernel_rfl) (by rw [tk_cells]; decide) Try.underlying3
  obtain ⟨z3, h3⟩ := field_bool Try.underlying25 hf 2 _ rfl (by kernel_rfl) (by rw [tk_cells]; decide) Try.underlying4
  obtain ⟨xs, m, _, _, _, hxs, hfi⟩ := DataW.trod_struct Try.underlying25 hf
  have hr := hfi 0 _ rfl
  have h0' : xs[0]? = some (xs[0]'(by rw [hxs]; decide)) := List.getElem?_eq_getElem _
  rw [h0'] at hr
  obtain ⟨z0, h0, w0⟩ := field_str Try.underlying23 hr 0 _ rfl (by kernel_rfl) (by rw [range_cells]; decide) Try.underlying9
  obtain ⟨z1, h1, w1⟩ := field_str Try.underlying23 hr 1 _ rfl (by kernel_rfl) (by rw [range_cells]; decide) Try.underlying9
  have rc : Try.prog.cellsOf 23 = 2 := range_cells
  have e0 : c0 = .string z0 := by simpa [rc] using h0
  have e1 : c1 = .string z1 := by simpa [rc] using h1
  have e2 : c2 = .int .i64 z2 := by simpa [rc] using h2
  have e3 : c3 = .bool z3 := by simpa [rc] using h3
  subst e0 e1 e2 e3
  exact ⟨⟨z0, z1, z2, z3⟩, rfl, w0, w1, w2⟩
end
end Go.Proofs.Ytcaildjmpeefbaa
