/- THE DOCUMENT's MAP BEHIND ONE EVENT, AND BEHIND MANY (impostref05.One, Fold): contracts -/
import Derived.Test.YtmipllkgioakoaaGreatEvSel
import Derived.Deep.DeepCutAuto
namespace Go.Proofs.YtmipllkgioakoaaGreat
open Go.RowKit
set_option linter.unusedVariables false
set_option linter.unusedSimpArgs false

theorem take_snoc {α : Type} {m : List α} {j : Nat} {x : α} (hx : m[j]? = some x) : m.take (j + 1) = m.take j ++ [x] := by
  obtain ⟨hj, rfl⟩ := List.getElem?_eq_some_iff.1 hx
  rw [List.take_add_one, List.getElem?_eq_getElem hj]; rfl
section
variable {α : Type} {key : α → ByteArray}
/-- how far the keys below k reach, so far -/
structure LowTo (key : α → ByteArray) (k : ByteArray) (m : List α) (j : Nat) : Prop where
  low : m.take j ++ lowB key k (m.drop j) = lowB key k m
  high : highB key k (m.drop j) = highB key k m
theorem LowTo.zero (k : ByteArray) (m : List α) : LowTo key k m 0 := ⟨by simp, by simp⟩
theorem LowTo.step {k : ByteArray} {m : List α} {j : Nat} {x : α} (h : LowTo key k m j) (hx : m[j]? = some x) (hk : kl (key x) k = true) : LowTo key k m (j + 1) := by
  obtain ⟨h1, h2⟩ := h
  have hs := take_snoc hx
  obtain ⟨hj, rfl⟩ := List.getElem?_eq_some_iff.1 hx
  rw [List.drop_eq_getElem_cons hj] at h1 h2
  simp only [lowB, highB] at h1 h2 ⊢
  rw [List.takeWhile_cons, if_pos hk] at h1
  rw [List.dropWhile_cons, if_pos hk] at h2
  refine ⟨?_, h2⟩
  rw [hs, List.append_assoc]
  exact h1
theorem LowTo.stop {k : ByteArray} {m : List α} {j : Nat} {x : α} (h : LowTo key k m j) (hx : m[j]? = some x) (hk : kl (key x) k = false) : m.take j = lowB key k m ∧ m.drop j = highB key k m := by
  obtain ⟨h1, h2⟩ := h
  obtain ⟨hj, rfl⟩ := List.getElem?_eq_some_iff.1 hx
  have hd := List.drop_eq_getElem_cons hj
  rw [hd] at h1 h2
  simp only [lowB, highB] at h1 h2 ⊢
  rw [List.takeWhile_cons, if_neg (by simp [hk]), List.append_nil] at h1
  rw [List.dropWhile_cons, if_neg (by simp [hk])] at h2
  exact ⟨h1, hd.trans h2⟩
theorem LowTo.all {k : ByteArray} {m : List α} {j : Nat} (h : LowTo key k m j) (hj : m.length ≤ j) : m.take j = lowB key k m ∧ m.drop j = highB key k m := by
  obtain ⟨h1, h2⟩ := h
  have hd : m.drop j = [] := List.drop_of_length_le hj
  rw [hd] at h1 h2
  exact ⟨by simpa [lowB] using h1, hd.trans (by simpa [highB] using h2)⟩
end

end Go.Proofs.YtmipllkgioakoaaGreat
