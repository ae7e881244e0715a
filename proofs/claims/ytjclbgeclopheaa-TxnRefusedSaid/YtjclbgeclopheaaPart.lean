/- GENERIC: PIECES OF A ROW THAT IS READ -/
import Derived.Test.YtjclbgeclopheaaIn
namespace Go.Proofs.Ytjclbgeclopheaa
open Go.RowKit
set_option linter.unusedVariables false
set_option linter.unusedSimpArgs false

/-! pieces of a row that is read -/
theorem LIn.take {α : Type} {cs : α → List Value} {sz : Nat} {w : World} {s : Option Addr} {c n k : Nat} {l : List α} (h : LIn cs sz w (.slice s n c) l) (hk : k ≤ l.length) : LIn cs sz w (.slice s k c) (l.take k) := by
  obtain ⟨a, c', h1, h2, h3, h4⟩ := h
  cases h1
  have hlen : (l.take k).length = k := by rw [List.length_take]; omega
  refine ⟨s, c, by rw [hlen], by omega, h3, fun hl => ?_⟩
  obtain ⟨g, off, h5, h6, h7⟩ := h4 (by omega)
  refine ⟨g, off, h5, h6, fun i x hx j hj => h7 i x ?_ j hj⟩
  rw [List.getElem?_take] at hx
  split at hx
  · exact hx
  · cases hx
theorem LIn.drop {α : Type} {cs : α → List Value} {sz : Nat} {w : World} {g off off' c n k m : Nat} {l : List α} (h : LIn cs sz w (.slice (some ⟨g, off, none⟩) n c) l) (hm : l.length = m + k) (ho : CutAt off k sz c off') (hg : g < w.heap.size) : LIn cs sz w (.slice (some ⟨g, off', none⟩) m (c - k)) (l.drop k) := by
  obtain ⟨a, c', h1, h2, h3, h4⟩ := h
  cases h1
  have hlen : (l.drop k).length = m := by rw [List.length_drop]; omega
  refine ⟨_, c - k, by rw [hlen], by omega, by omega, fun hl => ⟨g, off', rfl, hg, fun i x hx j hj => ?_⟩⟩
  obtain ⟨g', off2, h5, h6, h7⟩ := h4 (by omega)
  cases h5
  rcases ho with rfl | ⟨rfl, rfl⟩
  · have := h7 (k + i) x (by rw [List.getElem?_drop] at hx; exact hx) j hj
    rw [← this]
    congr 2
    rw [Nat.add_mul]; omega
  · omega
end Go.Proofs.Ytjclbgeclopheaa
