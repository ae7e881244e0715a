/- THE DOCUMENT's ANSWERS FOR key: contracts -/
import Derived.Test.YtbbhekmhffhpfaaBytes
import Derived.BigQuiet
import Derived.Laws.IdiomStrings
namespace Go.Proofs.Ytbbhekmhffhpfaa
open Go.RowKit
set_option linter.unusedVariables false
set_option linter.unusedSimpArgs false

theorem ret_b {a b : Bool} (h : a = b) : Ending.returned (.bool a) = .returned (.bool b) := by rw [h]

theorem byte_zero (b : UInt8) : (((b.toNat : Nat) : Int) == 0) = (b == 0) := by
  rw [Bool.eq_iff_iff]
  simp only [beq_iff_eq]
  constructor
  · intro h; apply UInt8.toNat_inj.1; have : (0 : UInt8).toNat = 0 := rfl; omega
  · rintro rfl; rfl
theorem mayRange_sizes (f t : ByteArray) : mayRangeB f.toList t.toList = (!(emptyB f.toList t.toList) && decide (f.size ≤ 8) && (decide (t.size ≤ 8) || (decide (t.size = 9) && t.toList.getD 8 1 == 0))) := by
  unfold mayRangeB
  rw [bs_len, bs_len]
theorem blk4 (w : World) (a b c d : Obj) : ((((w.alloc a).alloc b).alloc c).alloc d).heap[w.heap.size + 1 + 1]? = some c ∧ ((((w.alloc a).alloc b).alloc c).alloc d).heap[w.heap.size + 1 + 1 + 1]? = some d := by
  have h1 := new_block ((w.alloc a).alloc b) c
  have h2 := new_block (((w.alloc a).alloc b).alloc c) d
  have s1 : ((w.alloc a).alloc b).heap.size = w.heap.size + 1 + 1 := by simp
  have s2 : (((w.alloc a).alloc b).alloc c).heap.size = w.heap.size + 1 + 1 + 1 := by simp
  rw [s1] at h1
  rw [s2] at h2
  exact ⟨(Below.heap_alloc _ _ _ (by omega)).trans h1, h2⟩
/-- what Meet tells -/
def MeetOut (f t g u : ByteArray) (e : Ending) : Prop :=
  e = .returned (.tuple (if emptyB (mF f g).toList (mT t u).toList then #[.agg #[.string ⟨#[]⟩, .string ⟨#[]⟩], .bool false] else #[.agg #[.string (mF f g), .string (mT t u)], .bool true]))
end Go.Proofs.Ytbbhekmhffhpfaa
