/- THE FRAME OF A LAW'S PROOF, what is common to all of them: what was read reads the same where the old blocks are as they were; arguments opened to their cells. -/
import Derived.Test.YtmhiolhgofackaaLib
import Derived.ProofKit
import Derived.OpenShut
import Derived.ShutString
import Derived.ChangeOld
import Derived.Deep.Slices
import Derived.Lib.SmallJoins
namespace Go.Proofs.Ytmhiolhgofackaa
open Go.ChangeShapes Go.WideShapes Go.ChangeAt Go.RowKit Go.Deep
set_option linter.unusedVariables false
set_option linter.unusedSimpArgs false

theorem own_prog : ownKnob Try.prog.godebug = none := by kernel_rfl
theorem laid_prog : laidOutB Try.prog = true := by kernel_rfl

theorem list_of {α : Type} {P : Nat → α → Prop} : ∀ n, (∀ i, i < n → ∃ x, P i x) → ∃ l : List α, l.length = n ∧ ∀ i x, l[i]? = some x → P i x
  | 0, _ => ⟨[], rfl, by simp⟩
  | n + 1, h => by
    obtain ⟨l, h1, h2⟩ := list_of n (fun i hi => h i (by omega))
    obtain ⟨y, hy⟩ := h n (by omega)
    refine ⟨l ++ [y], by simp [h1], fun i x hx => ?_⟩
    by_cases hi : i < l.length
    · rw [List.getElem?_append_left hi] at hx; exact h2 i x hx
    · rw [List.getElem?_append_right (by omega)] at hx
      obtain ⟨h3, h4⟩ := List.getElem?_eq_some_iff.1 hx
      simp at h3
      have hz : i - l.length = 0 := by omega
      simp [hz] at h4
      subst h4
      have : i = n := by omega
      subst this; exact hy
section
variable {H : Type} {enc : TypeId × Value → H} {P : Program} {w : World} {base : Nat} {spare : Nat → Bool} {held : Bool}
/-- one field, of one cell, of a struct that was read -/
theorem field_cell {e : TypeId} {fs : Array Field} {n : Nat} {cs : List Value} {x : DataW H × List MemPlace} (he : P.underlying e = some (.struct fs)) (h : DataW.trod enc P w base spare held n e cs = some x)
    (j : Nat) (f : Field) (hj : fs[j]? = some f) (hc : P.cellsOf f.type = 1) (ho : f.offset < P.cellsOf e) :
    ∃ v y m, cs[f.offset]? = some v ∧ DataW.trod enc P w base spare held m f.type [v] = some y := by
  obtain ⟨xs, m, _, _, hlen, hxs, hf⟩ := DataW.trod_struct he h
  have h1 := hf j f hj
  have hjl : j < fs.size := (Array.getElem?_eq_some_iff.1 hj).1
  have hlt : f.offset < cs.length := by omega
  rw [hc, List.drop_eq_getElem_cons hlt] at h1
  have h2 : xs[j]? = some (xs[j]'(by omega)) := List.getElem?_eq_getElem (by omega)
  rw [h2] at h1
  exact ⟨cs[f.offset], _, m, List.getElem?_eq_getElem hlt, h1⟩
theorem field_int {e : TypeId} {fs : Array Field} {n : Nat} {cs : List Value} {x : DataW H × List MemPlace} {k : IntKind} (he : P.underlying e = some (.struct fs)) (h : DataW.trod enc P w base spare held n e cs = some x)
    (j : Nat) (f : Field) (hj : fs[j]? = some f) (hc : P.cellsOf f.type = 1) (ho : f.offset < P.cellsOf e) (hk : P.underlying f.type = some (.int k)) :
    ∃ z, cs[f.offset]? = some (.int k z) ∧ (Lit.int k z).wf = true := by
  obtain ⟨v, y, m, hv, hy⟩ := field_cell he h j f hj hc ho
  obtain ⟨z, hz, _, hw⟩ := DataW.trod_int hk hy
  simp only [List.cons.injEq, and_true] at hz
  exact ⟨z, by rw [hv, hz], hw⟩
theorem field_str {e : TypeId} {fs : Array Field} {n : Nat} {cs : List Value} {x : DataW H × List MemPlace} (he : P.underlying e = some (.struct fs)) (h : DataW.trod enc P w base spare held n e cs = some x)
    (j : Nat) (f : Field) (hj : fs[j]? = some f) (hc : P.cellsOf f.type = 1) (ho : f.offset < P.cellsOf e) (hk : P.underlying f.type = some .string) : ∃ z, cs[f.offset]? = some (.string z) ∧ z.size ≤ maxLen := by
  obtain ⟨v, y, m, hv, hy⟩ := field_cell he h j f hj hc ho
  obtain ⟨z, hz, _, hw⟩ := DataW.trod_string hk hy
  simp only [List.cons.injEq, and_true] at hz
  exact ⟨z, by rw [hv, hz], hw⟩
theorem field_bool {e : TypeId} {fs : Array Field} {n : Nat} {cs : List Value} {x : DataW H × List MemPlace} (he : P.underlying e = some (.struct fs)) (h : DataW.trod enc P w base spare held n e cs = some x)
    (j : Nat) (f : Field) (hj : fs[j]? = some f) (hc : P.cellsOf f.type = 1) (ho : f.offset < P.cellsOf e) (hk : P.underlying f.type = some .bool) : ∃ z, cs[f.offset]? = some (.bool z) := by
  obtain ⟨v, y, m, hv, hy⟩ := field_cell he h j f hj hc ho
  obtain ⟨z, hz, _⟩ := DataW.trod_bool hk hy
  simp only [List.cons.injEq, and_true] at hz
  exact ⟨z, by rw [hv, hz]⟩
/-- the cells of an element of a slice that was read -/
theorem slice_cells {t e : TypeId} {fuel : Nat} {a : Option Addr} {len cap : Nat} {x : DataW H × List MemPlace} (ht : P.underlying t = some (.slice e)) (h : DataW.trod enc P w base spare held fuel t [.slice a len cap] = some x) :
    len ≤ cap ∧ cap ≤ maxLen ∧ (0 < len → 0 < P.cellsOf e → ∃ b off, a = some ⟨b, off, none⟩ ∧ b < w.heap.size ∧
      ∀ i, i < len → ∃ cs m y, DataW.trod enc P w base spare held m e cs = some y ∧ cs.length = P.cellsOf e ∧ ∀ j, j < P.cellsOf e → w.cell? ⟨b, off + i * P.cellsOf e + j, none⟩ = cs[j]?) := by
  rcases open_slice ht h with ⟨hcs, _⟩ | ⟨a', len', cap', m, n, D, Pl, hcs, hb, hl, hm, hmm, _, hi⟩
  · simp only [List.cons.injEq, Value.slice.injEq, and_true] at hcs
    obtain ⟨rfl, rfl, rfl⟩ := hcs
    exact ⟨Nat.le_refl _, Nat.zero_le _, fun h => by omega⟩
  · simp only [List.cons.injEq, Value.slice.injEq, and_true] at hcs
    obtain ⟨rfl, rfl, rfl⟩ := hcs
    refine ⟨hl, hm, fun hlen hc => ?_⟩
    have hle : len ≤ m := by rw [hmm]; split <;> omega
    obtain ⟨cs0, hcs0, _⟩ := hi 0 (by omega)
    obtain ⟨_, hcl0, hat0⟩ := World.cells?_some hcs0
    have hc0 := hat0 0 hc
    rw [List.getElem?_eq_getElem (by omega)] at hc0
    have hsp : a'.spot = none := by
      have := World.cell?_spot hc0
      simpa [Addr.add] using this
    obtain ⟨b, off, sp⟩ := a'
    simp only at hsp
    subst hsp
    have hadd : ∀ o q, (⟨b, o, none⟩ : Addr).add q = ⟨b, o + q, none⟩ := by intro o q; unfold Addr.add; split <;> simp_all
    refine ⟨b, off, rfl, ?_, fun i hil => ?_⟩
    · have := World.block_lt_of_cell? w _ hc0
      simpa [hadd] using this
    · obtain ⟨cs, hcs, htr⟩ := hi i (by omega)
      obtain ⟨_, hcl, hat⟩ := World.cells?_some hcs
      refine ⟨cs, n, _, htr, hcl, fun j hj => ?_⟩
      have h1 := hat j hj
      rw [hadd, hadd] at h1
      exact h1
end
end Go.Proofs.Ytmhiolhgofackaa
