/- ARGUMENTS OF THE LAWS OF event, opened: events, maps, a range -/
import Derived.Test.YtmipllkgioakoaaGreatIn
import Derived.Test.YtmipllkgioakoaaGreatLaw
import Derived.Lib.SmallJoins
import Derived.ChangeMaps5
import Derived.SizedLaws
namespace Go.Proofs.YtmipllkgioakoaaGreat
open Go.ChangeShapes Go.WideShapes Go.ChangeAt Go.RowKit Go.Deep
set_option linter.unusedVariables false
set_option linter.unusedSimpArgs false

theorem list_of {α : Type} {P : Nat → α → Prop} : ∀ n, (∀ i, i < n → ∃ x, P i x) → ∃ l : List α, l.length = n ∧ ∀ i x, l[i]? = some x → P i x
  | 0, _ => ⟨[], rfl, by simp⟩
  | n + 1, h => by
    obtain ⟨l, h1, h2⟩ := list_of n (fun i hi => h i (by omega))
    obtain ⟨y, hy⟩ := h n (by omega)
    refine ⟨l ++ [y], by simp [h1], fun i x hx => ?_⟩
    by_cases hi : i < l.length
    · rw [List.getElem?_append_left hi] at hx; exact h2 i x hx
    · rw [List.getElem?_append_right (by omega)] at hx
      obtain ⟨h3, h4⟩ := List.getElem?_eq_some_iff.1 hx
      simp at h3
      have hz : i - l.length = 0 := by omega
      simp [hz] at h4
      subst h4
      have : i = n := by omega
      subst this; exact hy
set_option maxRecDepth 100000 in
theorem ev_cells : Tryz.prog.cellsOf 63 = 4 := by kernel_rfl
theorem kv_cells : Tryz.prog.cellsOf 83 = 3 := by kernel_rfl
section
variable {H : Type} {enc : TypeId × Value → H} {w : World} {base : Nat} {spare : Nat → Bool} {held : Bool}
theorem field_str {e : TypeId} {fs : Array Field} {n : Nat} {cs : List Value} {x : DataW H × List MemPlace} (he : Tryz.prog.underlying e = some (.struct fs)) (h : DataW.trod enc Tryz.prog w base spare held n e cs = some x)
    (j : Nat) (f : Field) (hj : fs[j]? = some f) (hc : Tryz.prog.cellsOf f.type = 1) (ho : f.offset < Tryz.prog.cellsOf e) (hk : Tryz.prog.underlying f.type = some .string) : ∃ z, cs[f.offset]? = some (.string z) ∧ z.size ≤ maxLen := by
  obtain ⟨v, y, m, hv, hy⟩ := field_cell he h j f hj hc ho
  obtain ⟨z, hz, _, hw⟩ := DataW.trod_string hk hy
  simp only [List.cons.injEq, and_true] at hz
  exact ⟨z, by rw [hv, hz], hw⟩
theorem field_bool {e : TypeId} {fs : Array Field} {n : Nat} {cs : List Value} {x : DataW H × List MemPlace} (he : Tryz.prog.underlying e = some (.struct fs)) (h : DataW.trod enc Tryz.prog w base spare held n e cs = some x)
    (j : Nat) (f : Field) (hj : fs[j]? = some f) (hc : Tryz.prog.cellsOf f.type = 1) (ho : f.offset < Tryz.prog.cellsOf e) (hk : Tryz.prog.underlying f.type = some .bool) : ∃ z, cs[f.offset]? = some (.bool z) := by
  obtain ⟨v, y, m, hv, hy⟩ := field_cell he h j f hj hc ho
  obtain ⟨z, hz, _⟩ := DataW.trod_bool hk hy
  simp only [List.cons.injEq, and_true] at hz
  exact ⟨z, by rw [hv, hz]⟩
set_option maxRecDepth 100000 in
theorem ev_of {n : Nat} {cs : List Value} {x : DataW H × List MemPlace} (h : DataW.trod enc Tryz.prog w base spare held n 63 cs = some x) :
    ∃ y : Ev, ∀ j, j < 4 → cs[j]? = y.cells[j]? := by
  obtain ⟨z0, h0, _⟩ := field_int Tryz.underlying63 h 0 _ rfl (by kernel_rfl) (by rw [ev_cells]; decide) Tryz.underlying3
  obtain ⟨z1, h1, w1⟩ := field_str Tryz.underlying63 h 1 _ rfl (by kernel_rfl) (by rw [ev_cells]; decide) Tryz.underlying9
  obtain ⟨z2, h2, w2⟩ := field_str Tryz.underlying63 h 2 _ rfl (by kernel_rfl) (by rw [ev_cells]; decide) Tryz.underlying9
  obtain ⟨z3, h3⟩ := field_bool Tryz.underlying63 h 3 _ rfl (by kernel_rfl) (by rw [ev_cells]; decide) Tryz.underlying4
  refine ⟨⟨z0, z1, z2, z3, w1, w2⟩, fun j hj => ?_⟩
  match j, hj with
  | 0, _ => exact h0
  | 1, _ => exact h1
  | 2, _ => exact h2
  | 3, _ => exact h3
set_option maxRecDepth 100000 in
theorem open_events {v : Value} {d : DataW H} {p : List MemPlace} {r : Reach} {b0 : Nat} (hv : Value.okWide Tryz.prog w r b0 50 v) (h : DataW.Trod enc Tryz.prog w base spare held 50 v d p) :
    ∃ l : List Ev, EvIn w v l := by
  obtain ⟨a, len, cap, rfl⟩ := okWide_slice Tryz.underlying50 hv
  obtain ⟨fuel, hf⟩ := h
  obtain ⟨h1, h2, h3⟩ := slice_cells Tryz.underlying50 (by simpa [Value.cells] using hf)
  by_cases hl : 0 < len
  · obtain ⟨b, off, ha, hb, hc⟩ := h3 hl (by rw [ev_cells]; decide)
    obtain ⟨l, hl1, hl2⟩ := list_of (α := Ev) (P := fun i x => ∀ j, j < 4 → w.cell? ⟨b, off + (i * 4 + j), none⟩ = x.cells[j]?) len (fun i hi => by
      obtain ⟨cs, m, y, hy, _, hat⟩ := hc i hi
      obtain ⟨x, hx⟩ := ev_of hy
      rw [ev_cells] at hat
      refine ⟨x, fun j hj => ?_⟩
      rw [← Nat.add_assoc, hat j hj]; exact hx j hj)
    subst hl1
    exact ⟨l, a, cap, rfl, h1, h2, fun _ => ⟨b, off, ha, hb, hl2⟩⟩
  · have : len = 0 := by omega
    subst this
    exact ⟨[], a, cap, rfl, h1, h2, fun h => absurd h (by simp)⟩
set_option maxRecDepth 100000 in
theorem kv_of {n : Nat} {cs : List Value} {x : DataW H × List MemPlace} (h : DataW.trod enc Tryz.prog w base spare held n 83 cs = some x) :
    ∃ y : Kv, ∀ j, j < 3 → cs[j]? = y.cells[j]? := by
  obtain ⟨z0, h0, w0⟩ := field_str Tryz.underlying83 h 0 _ rfl (by kernel_rfl) (by rw [kv_cells]; decide) Tryz.underlying9
  obtain ⟨z1, h1, w1⟩ := field_str Tryz.underlying83 h 1 _ rfl (by kernel_rfl) (by rw [kv_cells]; decide) Tryz.underlying9
  obtain ⟨z2, h2, _⟩ := field_int Tryz.underlying83 h 2 _ rfl (by kernel_rfl) (by rw [kv_cells]; decide) Tryz.underlying3
  refine ⟨⟨z0, z1, z2, w0, w1⟩, fun j hj => ?_⟩
  match j, hj with
  | 0, _ => exact h0
  | 1, _ => exact h1
  | 2, _ => exact h2
set_option maxRecDepth 100000 in
theorem open_kvs {v : Value} {d : DataW H} {p : List MemPlace} {r : Reach} {b0 : Nat} (hv : Value.okWide Tryz.prog w r b0 39 v) (h : DataW.Trod enc Tryz.prog w base spare held 39 v d p) :
    ∃ l : List Kv, KvIn w v l := by
  obtain ⟨a, len, cap, rfl⟩ := okWide_slice Tryz.underlying39 hv
  obtain ⟨fuel, hf⟩ := h
  obtain ⟨h1, h2, h3⟩ := slice_cells Tryz.underlying39 (by simpa [Value.cells] using hf)
  by_cases hl : 0 < len
  · obtain ⟨b, off, ha, hb, hc⟩ := h3 hl (by rw [kv_cells]; decide)
    obtain ⟨l, hl1, hl2⟩ := list_of (α := Kv) (P := fun i x => ∀ j, j < 3 → w.cell? ⟨b, off + (i * 3 + j), none⟩ = x.cells[j]?) len (fun i hi => by
      obtain ⟨cs, m, y, hy, _, hat⟩ := hc i hi
      obtain ⟨x, hx⟩ := kv_of hy
      rw [kv_cells] at hat
      refine ⟨x, fun j hj => ?_⟩
      rw [← Nat.add_assoc, hat j hj]; exact hx j hj)
    subst hl1
    exact ⟨l, a, cap, rfl, h1, h2, fun _ => ⟨b, off, ha, hb, hl2⟩⟩
  · have : len = 0 := by omega
    subst this
    exact ⟨[], a, cap, rfl, h1, h2, fun h => absurd h (by simp)⟩
end
theorem range_cells : Tryz.prog.cellsOf 31 = 2 := by kernel_rfl
section
variable {H : Type} {enc : TypeId × Value → H} {w : World} {base : Nat} {spare : Nat → Bool} {held : Bool}
set_option maxRecDepth 100000 in
theorem open_range {v : Value} {d : DataW H} {p : List MemPlace} {r : Reach} {b0 : Nat} (hv : Value.okWide Tryz.prog w r b0 31 v) (h : DataW.Trod enc Tryz.prog w base spare held 31 v d p) :
    ∃ f t : ByteArray, v = .agg #[.string f, .string t] ∧ f.size ≤ maxLen ∧ t.size ≤ maxLen := by
  obtain ⟨c0, c1, y0, y1, m, rfl, rfl, rfl, h0, h1⟩ := Joins.open_agg2 Tryz.underlying31 (by kernel_rfl) range_cells hv h
  obtain ⟨f, e0, _, w0⟩ := DataW.trod_string Tryz.underlying9 h0
  obtain ⟨t, e1, _, w1⟩ := DataW.trod_string Tryz.underlying9 h1
  simp only [List.cons.injEq, and_true] at e0 e1
  subst e0 e1
  exact ⟨f, t, rfl, w0, w1⟩
end
end Go.Proofs.YtmipllkgioakoaaGreat
