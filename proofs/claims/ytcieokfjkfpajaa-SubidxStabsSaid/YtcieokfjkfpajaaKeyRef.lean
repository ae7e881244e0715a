/- THE DOCUMENT's ANSWERS FOR key: contracts -/
import Derived.Test.YtcieokfjkfpajaaBytes
import Derived.BigQuiet
import Derived.Laws.IdiomStrings
namespace Go.Proofs.Ytcieokfjkfpajaa
open Go.RowKit
set_option linter.unusedVariables false
set_option linter.unusedSimpArgs false

theorem ret_b {a b : Bool} (h : a = b) : Ending.returned (.bool a) = .returned (.bool b) := by rw [h]

theorem rempty_any (f t : ByteArray) (w : World) : Calls Try.prog 20 #[.agg #[.string f, .string t]] w fun e w' => e = .returned (.bool (emptyB f.toList t.toList)) ∧ Fr [] w w' := by
  have c1 := @run_leq Try.prog
  by_cases h0 : t.toList = []
  · go_enter Try.func20, Try.ntmps20
    go_wp2
    go_ret
    exact ⟨ret_b (by simp [emptyB, h0]), (Fr.refl _ _).alloc _⟩
  · go_enter Try.func20, Try.ntmps20
    go_wp2
    go_ret
    exact ⟨ret_b (by simp [emptyB, ls, h0]), (Fr.refl _ _).alloc _⟩
theorem rin_any (f t k : ByteArray) (w : World) : Calls Try.prog 18 #[.agg #[.string f, .string t], .string k] w fun e w' => e = .returned (.bool (inB f.toList t.toList k.toList)) ∧ Fr [] w w' := by
  have c1 := @run_lss Try.prog
  have c2 := @run_geq Try.prog
  by_cases h1 : Op.bytesLess k.toList f.toList = true
  · go_enter Try.func18, Try.ntmps18
    go_wp2
    go_ret
    exact ⟨ret_b (by simp [inB, ls, h1]), (Fr.refl _ _).alloc _⟩
  · have h1 : Op.bytesLess k.toList f.toList = false := by simpa using h1
    by_cases h0 : t.toList = []
    · go_enter Try.func18, Try.ntmps18
      go_wp2
      go_ret
      exact ⟨ret_b (by simp [inB, ls, h0, h1]), (Fr.refl _ _).alloc _⟩
    · go_enter Try.func18, Try.ntmps18
      go_wp2
      go_ret
      exact ⟨ret_b (by simp [inB, ls, h0, h1]), (Fr.refl _ _).alloc _⟩
theorem byte_zero (b : UInt8) : (((b.toNat : Nat) : Int) == 0) = (b == 0) := by
  rw [Bool.eq_iff_iff]
  simp only [beq_iff_eq]
  constructor
  · intro h; apply UInt8.toNat_inj.1; have : (0 : UInt8).toNat = 0 := rfl; omega
  · rintro rfl; rfl
theorem mayRange_sizes (f t : ByteArray) : mayRangeB f.toList t.toList = (!(emptyB f.toList t.toList) && decide (f.size ≤ 8) && (decide (t.size ≤ 8) || (decide (t.size = 9) && t.toList.getD 8 1 == 0))) := by
  unfold mayRangeB
  rw [bs_len, bs_len]
theorem blk4 (w : World) (a b c d : Obj) : ((((w.alloc a).alloc b).alloc c).alloc d).heap[w.heap.size + 1 + 1]? = some c ∧ ((((w.alloc a).alloc b).alloc c).alloc d).heap[w.heap.size + 1 + 1 + 1]? = some d := by
  have h1 := new_block ((w.alloc a).alloc b) c
  have h2 := new_block (((w.alloc a).alloc b).alloc c) d
  have s1 : ((w.alloc a).alloc b).heap.size = w.heap.size + 1 + 1 := by simp
  have s2 : (((w.alloc a).alloc b).alloc c).heap.size = w.heap.size + 1 + 1 + 1 := by simp
  rw [s1] at h1
  rw [s2] at h2
  exact ⟨(Below.heap_alloc _ _ _ (by omega)).trans h1, h2⟩
/-- what Meet tells -/
def MeetOut (f t g u : ByteArray) (e : Ending) : Prop :=
  e = .returned (.tuple (if emptyB (mF f g).toList (mT t u).toList then #[.agg #[.string ⟨#[]⟩, .string ⟨#[]⟩], .bool false] else #[.agg #[.string (mF f g), .string (mT t u)], .bool true]))
end Go.Proofs.Ytcieokfjkfpajaa
