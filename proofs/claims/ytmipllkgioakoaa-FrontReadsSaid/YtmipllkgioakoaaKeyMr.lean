/- PACKAGE key: cut, MayRange -/
import Derived.Test.YtmipllkgioakoaaKeyA
import Derived.Deep.RegionHeld3
import Derived.Deep.DeepCutAuto
namespace Go.Proofs.Ytmipllkgioakoaa
open Go.RowKit
set_option linter.unusedVariables false
set_option linter.unusedSimpArgs false

theorem set2_block {w : World} {p : Nat} {c0 c1 : Value} {t : TypeId} (h : w.heap[p]? = some (.cells #[c0, c1] t (0, 0))) (u0 u1 : Value) : ((w.setCell ⟨p, 0, none⟩ u0).setCell ⟨p, 1, none⟩ u1).heap[p]? = some (.cells #[u0, u1] t (0, 0)) :=
  set_block (set_block h 0 u0) 1 u1
theorem set2_other {w : World} {p q : Nat} {o : Obj} (h : w.heap[p]? = some o) (hn : p ≠ q) (u0 u1 : Value) : ((w.setCell ⟨q, 0, none⟩ u0).setCell ⟨q, 1, none⟩ u1).heap[p]? = some o :=
  set_other (set_other h hn 0 u0) hn 1 u1
theorem blk2k (w : World) (a b : Obj) : ((w.alloc a).alloc b).heap[w.heap.size]? = some a ∧ ((w.alloc a).alloc b).heap[w.heap.size + 1]? = some b := by
  have h2 := new_block (w.alloc a) b
  have s1 : (w.alloc a).heap.size = w.heap.size + 1 := by simp
  rw [s1] at h2
  exact ⟨(Below.heap_alloc _ _ _ (by omega)).trans (new_block w a), h2⟩
/-- what MayRange asks, in the code's words -/
theorem mayr_cut (f t : ByteArray) : mayRangeB f.toList t.toList = (!(emptyB f.toList t.toList) && (decide (f.extract 0 8 = f) && (decide (t.extract 0 8 = t) || decide (t.extract 0 8 ++ ⟨#[0]⟩ = t)))) := by
  have cutS : ∀ s : ByteArray, decide (s.extract 0 8 = s) = decide (s.size ≤ 8) := by
    intro s
    rw [decide_eq_decide]
    constructor
    · intro h
      have h2 : (s.extract 0 8).size = s.size := by rw [h]
      rw [ByteArray.size_extract] at h2
      omega
    · intro h
      apply bs_inj; rw [bs_take, List.take_of_length_le (by rw [bs_len]; omega)]
  have z1 : (⟨#[0]⟩ : ByteArray).toList = [0] := by rw [ByteArray.toList_eq]
  have nxt : (decide (t.extract 0 8 = t) || decide (t.extract 0 8 ++ ⟨#[0]⟩ = t)) = (decide (t.size ≤ 8) || (decide (t.size = 9) && t.toList.getD 8 1 == 0)) := by
    rw [cutS]
    by_cases h8 : t.size ≤ 8
    · simp [h8]
    · by_cases h9 : t.size = 9
      · have hl := bs_last h9
        have hg := bs_get t 8 (by omega)
        have hG : t.toList.getD 8 1 = t[8]'(by omega) := by rw [List.getD_eq_getElem?_getD, hg]; rfl
        rw [hG]
        by_cases hz : t[8]'(by omega) = 0
        · have : t.extract 0 8 ++ ⟨#[0]⟩ = t := bs_inj (by rw [bs_app, z1, hl, hz])
          simp [h9, hz, this]
        · have : ¬ t.extract 0 8 ++ ⟨#[0]⟩ = t := by
            intro e
            have e2 : (t.extract 0 8 ++ ⟨#[0]⟩).toList = t.toList := by rw [e]
            rw [bs_app, z1, hl] at e2
            have e3 := List.append_cancel_left e2
            simp only [List.cons.injEq, and_true] at e3
            exact hz e3.symm
          simp [h9, hz, this]
      · have : ¬ t.extract 0 8 ++ ⟨#[0]⟩ = t := by
          intro e
          have e2 : (t.extract 0 8 ++ ⟨#[0]⟩).toList.length = t.toList.length := by rw [e]
          rw [bs_app, z1, bs_take, List.length_append, List.length_take, bs_len] at e2
          simp only [List.length_cons, List.length_nil] at e2
          omega
        simp [h8, h9, this]
  rw [mayRange_sizes, cutS, nxt, Bool.and_assoc]
end Go.Proofs.Ytmipllkgioakoaa
