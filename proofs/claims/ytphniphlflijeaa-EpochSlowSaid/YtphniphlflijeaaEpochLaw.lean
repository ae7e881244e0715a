/- ARGUMENTS OF THE LAWS OF epoch, opened -/
import Derived.Test.YtphniphlflijeaaEpochAwake
import Derived.Test.YtphniphlflijeaaLaw
namespace Go.Proofs.Ytphniphlflijeaa
open Go.ChangeShapes Go.WideShapes Go.ChangeAt Go.RowKit Go.Deep
set_option linter.unusedVariables false
set_option linter.unusedSimpArgs false

theorem ewf_byte {a : Int} (h : (Lit.int .u8 a).wf = true) : 0 ≤ a ∧ a ≤ 255 := by
  simpa [Lit.wf, IntKind.min, IntKind.max, IntKind.signed, IntKind.bits] using h
/-- deeds that came in -/
def EDeeds (w : World) (a : Option Addr) (len cap : Nat) : Prop :=
  len ≤ cap ∧ cap ≤ maxLen ∧ (0 < len → ∃ b off, a = some ⟨b, off, none⟩ ∧ b < w.heap.size ∧ ∀ i, i < len → ∃ kind t x : Int, w.cell? ⟨b, off + i * 3, none⟩ = some (.int .i64 kind) ∧ w.cell? ⟨b, off + i * 3 + 1, none⟩ = some (.int .i64 t) ∧
    w.cell? ⟨b, off + i * 3 + 2, none⟩ = some (.int .u64 x))
theorem EDeeds.keep {w w' : World} {a : Option Addr} {len cap : Nat} (h : EDeeds w a len cap) (hf : Fr [] w w') : EDeeds w' a len cap := by
  obtain ⟨h1, h2, h3⟩ := h
  refine ⟨h1, h2, fun hl => ?_⟩
  obtain ⟨b, off, ha, hb, hc⟩ := h3 hl
  refine ⟨b, off, ha, Nat.lt_of_lt_of_le hb hf.size, fun i hi => ?_⟩
  obtain ⟨kind, t, x, c0, c1, c2⟩ := hc i hi
  exact ⟨kind, t, x, hf.cell c0 (by simp), hf.cell c1 (by simp), hf.cell c2 (by simp)⟩
theorem edeed_cells : Try.prog.cellsOf 35 = 3 := by kernel_rfl
/-- words that came in -/
def EWords (w : World) (a : Option Addr) (len cap : Nat) (xs : List Int) : Prop := len ≤ cap ∧ cap ≤ maxLen ∧ xs.length = len ∧ (0 < len → ∃ b off, a = some ⟨b, off, none⟩ ∧ b < w.heap.size ∧ ∀ i x, xs[i]? = some x → w.cell? ⟨b, off + i, none⟩ = some (.int .u64 x))
section
variable {H : Type} {enc : TypeId × Value → H} {w : World} {base : Nat} {spare : Nat → Bool} {held : Bool}
theorem edeed_ints {n : Nat} {cs : List Value} {x : DataW H × List MemPlace} (h : DataW.trod enc Try.prog w base spare held n 35 cs = some x) :
    ∃ kind a k : Int, cs[0]? = some (.int .i64 kind) ∧ cs[1]? = some (.int .i64 a) ∧ cs[2]? = some (.int .u64 k) := by
  obtain ⟨z0, h0, _⟩ := field_int Try.underlying35 h 0 _ rfl (by kernel_rfl) (by rw [edeed_cells]; decide) Try.underlying3
  obtain ⟨z1, h1, _⟩ := field_int Try.underlying35 h 1 _ rfl (by kernel_rfl) (by rw [edeed_cells]; decide) Try.underlying3
  obtain ⟨z2, h2, _⟩ := field_int Try.underlying35 h 2 _ rfl (by kernel_rfl) (by rw [edeed_cells]; decide) Try.underlying33
  exact ⟨z0, z1, z2, h0, h1, h2⟩
theorem open_edeeds {v : Value} {d : DataW H} {p : List MemPlace} {r : Reach} {b0 : Nat} (hv : Value.okWide Try.prog w r b0 22 v) (h : DataW.Trod enc Try.prog w base spare held 22 v d p) :
    ∃ a len cap, v = .slice a len cap ∧ EDeeds w a len cap := by
  obtain ⟨a, len, cap, rfl⟩ := okWide_slice Try.underlying22 hv
  obtain ⟨fuel, hf⟩ := h
  obtain ⟨h1, h2, h3⟩ := slice_cells Try.underlying22 (by simpa [Value.cells] using hf)
  refine ⟨a, len, cap, rfl, h1, h2, fun hl => ?_⟩
  obtain ⟨b, off, ha, hb, hc⟩ := h3 hl (by rw [edeed_cells]; decide)
  refine ⟨b, off, ha, hb, fun i hi => ?_⟩
  obtain ⟨cs, m, y, hy, _, hat⟩ := hc i hi
  obtain ⟨kind, t, x, c0, c1, c2⟩ := edeed_ints hy
  rw [edeed_cells] at hat
  exact ⟨kind, t, x, (hat 0 (by decide)).trans c0, (hat 1 (by decide)).trans c1, (hat 2 (by decide)).trans c2⟩
theorem eu64_cells : Try.prog.cellsOf 33 = 1 := by kernel_rfl
theorem open_ewords {v : Value} {d : DataW H} {p : List MemPlace} {r : Reach} {b0 : Nat} (hv : Value.okWide Try.prog w r b0 39 v) (h : DataW.Trod enc Try.prog w base spare held 39 v d p) :
    ∃ a len cap xs, v = .slice a len cap ∧ EWords w a len cap xs := by
  obtain ⟨a, len, cap, rfl⟩ := okWide_slice Try.underlying39 hv
  obtain ⟨fuel, hf⟩ := h
  obtain ⟨h1, h2, h3⟩ := slice_cells Try.underlying39 (by simpa [Value.cells] using hf)
  by_cases hl : 0 < len
  · obtain ⟨b, off, ha, hb, hc⟩ := h3 hl (by rw [eu64_cells]; decide)
    have hcell : ∀ i, i < len → ∃ z : Int, w.cell? ⟨b, off + i, none⟩ = some (.int .u64 z) := by
      intro i hi
      obtain ⟨cs, m, y, hy, hcl, hat⟩ := hc i hi
      rw [eu64_cells] at hat hcl
      have h0 := hat 0 (by decide)
      match cs, hcl with
      | [c], _ =>
        obtain ⟨z, hz, _, _⟩ := DataW.trod_int Try.underlying33 hy
        simp only [List.cons.injEq, and_true] at hz
        subst hz
        exact ⟨z, by simpa using h0⟩
    refine ⟨a, len, cap, (List.range len).map (fun i => if h : i < len then (hcell i h).choose else 0), rfl, h1, h2, by simp, fun _ => ⟨b, off, ha, hb, fun i x hx => ?_⟩⟩
    rw [List.getElem?_map] at hx
    by_cases hi : i < len
    · rw [List.getElem?_range hi] at hx
      simp only [Option.map_some, Option.some.injEq, dif_pos hi] at hx
      rw [← hx]
      exact (hcell i hi).choose_spec
    · rw [List.getElem?_eq_none (by simp; omega)] at hx; cases hx
  · exact ⟨a, len, cap, [], rfl, h1, h2, by simp; omega, fun h => absurd h hl⟩
end
end Go.Proofs.Ytphniphlflijeaa
