/- ARGUMENTS OF THE LAWS OF subidx: watches, lists of them, deeds; opened -/
import Derived.Test.YtcieokfjkfpajaaSiRan
import Derived.Test.YtcieokfjkfpajaaEvLaw
namespace Go.Proofs.Ytcieokfjkfpajaa
open Go.ChangeShapes Go.WideShapes Go.ChangeAt Go.RowKit Go.Deep
set_option linter.unusedVariables false
set_option linter.unusedSimpArgs false

theorem si_sub_cells : Try.prog.cellsOf 32 = 4 := by kernel_rfl
theorem si_deed_cells : Try.prog.cellsOf 34 = 5 := by kernel_rfl
theorem si_rng_cells : Try.prog.cellsOf 30 = 2 := by kernel_rfl
section
variable {H : Type} {enc : TypeId × Value → H} {w : World} {base : Nat} {spare : Nat → Bool} {held : Bool}
set_option maxRecDepth 100000 in
theorem sb_of {n : Nat} {cs : List Value} {x : DataW H × List MemPlace} (h : DataW.trod enc Try.prog w base spare held n 32 cs = some x) :
    ∃ s : Sb, (∀ j, j < 4 → cs[j]? = s.cells[j]?) ∧ wf64 s.id ∧ wf64 s.rev ∧ s.f.size ≤ maxLen ∧ s.t.size ≤ maxLen := by
  obtain ⟨z0, h0, w0⟩ := field_int Try.underlying32 h 0 _ rfl (by kernel_rfl) (by rw [si_sub_cells]; decide) Try.underlying3
  obtain ⟨z1, h1, w1⟩ := field_int Try.underlying32 h 1 _ rfl (by kernel_rfl) (by rw [si_sub_cells]; decide) Try.underlying3
  obtain ⟨xs, m, _, _, _, hxs, hfi⟩ := DataW.trod_struct Try.underlying32 h
  have hr := hfi 2 _ rfl
  have h2' : xs[2]? = some (xs[2]'(by rw [hxs]; decide)) := List.getElem?_eq_getElem _
  rw [h2'] at hr
  obtain ⟨z2, h2, w2⟩ := field_str Try.underlying30 hr 0 _ rfl (by kernel_rfl) (by rw [si_rng_cells]; decide) Try.underlying9
  obtain ⟨z3, h3, w3⟩ := field_str Try.underlying30 hr 1 _ rfl (by kernel_rfl) (by rw [si_rng_cells]; decide) Try.underlying9
  refine ⟨⟨z0, z1, z2, z3⟩, fun j hj => ?_, w0, w1, w2, w3⟩
  match j, hj with
  | 0, _ => exact h0
  | 1, _ => exact h1
  | 2, _ => exact (show cs[2]? = some (.string z2) from by simpa [si_rng_cells] using h2)
  | 3, _ => exact (show cs[3]? = some (.string z3) from by simpa [si_rng_cells] using h3)
set_option maxRecDepth 100000 in
theorem open_sub {v : Value} {d : DataW H} {p : List MemPlace} {r : Reach} {b0 : Nat} (hv : Value.okWide Try.prog w r b0 32 v) (h : DataW.Trod enc Try.prog w base spare held 32 v d p) :
    ∃ s : Sb, v = s.val ∧ wf64 s.id ∧ wf64 s.rev ∧ s.f.size ≤ maxLen ∧ s.t.size ≤ maxLen := by
  obtain ⟨cs, rfl, hsz⟩ := okWide_struct Try.underlying32 hv
  obtain ⟨fuel, hf⟩ := h
  obtain ⟨s, h1, h2⟩ := sb_of (cs := cs.toList) (by simpa [Value.cells] using hf)
  refine ⟨s, ?_, h2⟩
  unfold Sb.val
  congr 1
  apply Array.ext_getElem?
  intro i
  have hs4 : cs.size = 4 := hsz.trans si_sub_cells
  by_cases hi : i < 4
  · have := h1 i hi
    rw [Array.getElem?_toList] at this
    rw [this]
    match i, hi with
    | 0, _ => rfl
    | 1, _ => rfl
    | 2, _ => rfl
    | 3, _ => rfl
  · rw [Array.getElem?_eq_none (by omega), Array.getElem?_eq_none (by simp; omega)]
/-- watches that are read; their numbers are such as may be -/
def SbArg (w : World) (v : Value) (l : List Sb) : Prop := SbIn w v l ∧ ∀ s ∈ l, wf64 s.id
set_option maxRecDepth 100000 in
theorem open_subs {v : Value} {d : DataW H} {p : List MemPlace} {r : Reach} {b0 : Nat} (hv : Value.okWide Try.prog w r b0 26 v) (h : DataW.Trod enc Try.prog w base spare held 26 v d p) :
    ∃ l : List Sb, SbArg w v l := by
  obtain ⟨a, len, cap, rfl⟩ := okWide_slice Try.underlying26 hv
  obtain ⟨fuel, hf⟩ := h
  obtain ⟨h1, h2, h3⟩ := slice_cells Try.underlying26 (by simpa [Value.cells] using hf)
  by_cases hl : 0 < len
  · obtain ⟨b, off, ha, hb, hc⟩ := h3 hl (by rw [si_sub_cells]; decide)
    obtain ⟨l, hl1, hl2⟩ := list_of (α := Sb) (P := fun i x => wf64 x.id ∧ ∀ j, j < 4 → w.cell? ⟨b, off + (i * 4 + j), none⟩ = x.cells[j]?) len (fun i hi => by
      obtain ⟨cs, m, y, hy, _, hat⟩ := hc i hi
      obtain ⟨x, hx, hx0, _⟩ := sb_of hy
      rw [si_sub_cells] at hat
      refine ⟨x, hx0, fun j hj => ?_⟩
      rw [← Nat.add_assoc, hat j hj]; exact hx j hj)
    subst hl1
    refine ⟨l, ⟨a, cap, rfl, h1, h2, fun _ => ⟨b, off, ha, hb, fun i x hx => (hl2 i x hx).2⟩⟩, fun d hd => ?_⟩
    obtain ⟨i, hi⟩ := List.mem_iff_getElem?.1 hd
    exact (hl2 i d hi).1
  · have : len = 0 := by omega
    subst this
    exact ⟨[], ⟨a, cap, rfl, h1, h2, fun h => absurd h (by simp)⟩, by intro d hd; cases hd⟩
set_option maxRecDepth 100000 in
theorem sd_of {n : Nat} {cs : List Value} {x : DataW H × List MemPlace} (h : DataW.trod enc Try.prog w base spare held n 34 cs = some x) :
    ∃ d : Sd, wf64 d.s.id ∧ ∀ j, j < 5 → cs[j]? = d.cells[j]? := by
  obtain ⟨z0, h0, w0⟩ := field_int Try.underlying34 h 0 _ rfl (by kernel_rfl) (by rw [si_deed_cells]; decide) Try.underlying3
  obtain ⟨xs, m, _, _, _, hxs, hfi⟩ := DataW.trod_struct Try.underlying34 h
  have hr := hfi 1 _ rfl
  have h2' : xs[1]? = some (xs[1]'(by rw [hxs]; decide)) := List.getElem?_eq_getElem _
  rw [h2'] at hr
  obtain ⟨s, hs, hw, _⟩ := sb_of hr
  refine ⟨⟨z0, s⟩, hw, fun j hj => ?_⟩
  have q := fun i hi => hs i hi
  have q0 := hs 0 (by decide)
  have q1 := hs 1 (by decide)
  have q2 := hs 2 (by decide)
  have q3 := hs 3 (by decide)
  match j, hj with
  | 0, _ => exact h0
  | 1, _ => simpa [si_sub_cells, Sd.cells, Sb.cells] using q0
  | 2, _ => simpa [si_sub_cells, Sd.cells, Sb.cells] using q1
  | 3, _ => simpa [si_sub_cells, Sd.cells, Sb.cells] using q2
  | 4, _ => simpa [si_sub_cells, Sd.cells, Sb.cells] using q3
set_option maxRecDepth 100000 in
theorem open_sdeeds {v : Value} {d : DataW H} {p : List MemPlace} {r : Reach} {b0 : Nat} (hv : Value.okWide Try.prog w r b0 22 v) (h : DataW.Trod enc Try.prog w base spare held 22 v d p) :
    ∃ l : List Sd, SdIn w v l := by
  obtain ⟨a, len, cap, rfl⟩ := okWide_slice Try.underlying22 hv
  obtain ⟨fuel, hf⟩ := h
  obtain ⟨h1, h2, h3⟩ := slice_cells Try.underlying22 (by simpa [Value.cells] using hf)
  by_cases hl : 0 < len
  · obtain ⟨b, off, ha, hb, hc⟩ := h3 hl (by rw [si_deed_cells]; decide)
    obtain ⟨l, hl1, hl2⟩ := list_of (α := Sd) (P := fun i x => wf64 x.s.id ∧ ∀ j, j < 5 → w.cell? ⟨b, off + (i * 5 + j), none⟩ = x.cells[j]?) len (fun i hi => by
      obtain ⟨cs, m, y, hy, _, hat⟩ := hc i hi
      obtain ⟨x, hx0, hx⟩ := sd_of hy
      rw [si_deed_cells] at hat
      refine ⟨x, hx0, fun j hj => ?_⟩
      rw [← Nat.add_assoc, hat j hj]; exact hx j hj)
    subst hl1
    refine ⟨l, ⟨a, cap, rfl, h1, h2, fun _ => ⟨b, off, ha, hb, fun i x hx => (hl2 i x hx).2⟩⟩, fun d hd => ?_⟩
    obtain ⟨i, hi⟩ := List.mem_iff_getElem?.1 hd
    exact (hl2 i d hi).1
  · have : len = 0 := by omega
    subst this
    exact ⟨[], ⟨a, cap, rfl, h1, h2, fun h => absurd h (by simp)⟩, by intro d hd; cases hd⟩
end
end Go.Proofs.Ytcieokfjkfpajaa
