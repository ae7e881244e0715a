/- THE DOCUMENT's ANSWERS FOR key: contracts -/
import Derived.Test.YtcaildjmpeefbaaBytes
import Derived.BigQuiet
import Derived.Laws.IdiomStrings
namespace Go.Proofs.Ytcaildjmpeefbaa
open Go.RowKit
set_option linter.unusedVariables false
set_option linter.unusedSimpArgs false

theorem ret_b {a b : Bool} (h : a = b) : Ending.returned (.bool a) = .returned (.bool b) := by rw [h]

theorem rempty_any (f t : ByteArray) (w : World) : Calls Try.prog 27 #[.agg #[.string f, .string t]] w fun e w' => e = .returned (.bool (emptyB f.toList t.toList)) ∧ Fr [] w w' := by
  have c1 := @run_leq Try.prog
  by_cases h0 : t.toList = []
  · go_enter Try.func27, Try.ntmps27
    go_wp2
    go_ret
    exact ⟨ret_b (by simp [emptyB, h0]), (Fr.refl _ _).alloc _⟩
  · go_enter Try.func27, Try.ntmps27
    go_wp2
    go_ret
    exact ⟨ret_b (by simp [emptyB, ls, h0]), (Fr.refl _ _).alloc _⟩
theorem byte_zero (b : UInt8) : (((b.toNat : Nat) : Int) == 0) = (b == 0) := by
  rw [Bool.eq_iff_iff]
  simp only [beq_iff_eq]
  constructor
  · intro h; apply UInt8.toNat_inj.1; have : (0 : UInt8).toNat = 0 := rfl; omega
  · rintro rfl; rfl
theorem mayRange_sizes (f t : ByteArray) : mayRangeB f.toList t.toList = (!(emptyB f.toList t.toList) && decide (f.size ≤ 8) && (decide (t.size ≤ 8) || (decide (t.size = 9) && t.toList.getD 8 1 == 0))) := by
  unfold mayRangeB
  rw [bs_len, bs_len]
set_option maxHeartbeats 1000000 in
theorem rmayrange_any (f t : ByteArray) (w : World) (hf : f.size ≤ maxLen) (ht : t.size ≤ maxLen) : Calls Try.prog 18 #[.agg #[.string f, .string t]] w fun e w' => e = .returned (.bool (mayRangeB f.toList t.toList)) ∧ Fr [] w w' := by
  unfold maxLen at hf ht
  have HV := Lib.hid (mayRange_sizes f t)
  have HE : Hid (∀ W, Calls Try.prog 27 #[.agg #[.string f, .string t]] W fun e w' => e = .returned (.bool (emptyB f.toList t.toList)) ∧ Fr [] W w') := Lib.hid (fun W => rempty_any f t W)
  obtain ⟨E, hE⟩ : ∃ E, E = emptyB f.toList t.toList := ⟨_, rfl⟩
  rw [← hE] at HV HE
  clear hE
  by_cases h9 : t.size = 9
  · have t9 : ((t.size : Int) == 9) = true := by simp; omega
    have hg := bs_get t 8 (by omega)
    have HG : Hid (t.toList.getD 8 1 = t[8]'(by omega)) := Lib.hid (by rw [List.getD_eq_getElem?_getD, hg]; rfl)
    have HZ := Lib.hid (byte_zero (t[8]'(by omega)))
    clear hg
    by_cases h8 : f.size ≤ 8
    all_goals first
      | have t8 : decide ((f.size : Int) ≤ 8) = true := by simp; omega
      | have t8 : decide ((f.size : Int) ≤ 8) = false := by simp; omega
    all_goals cases E
    all_goals
      go_enter Try.func18, Try.ntmps18
      go_wp2_with (go_at_call 27; refine (HE.out _).mono ?_; rintro e w1 ⟨rfl, h1⟩; obtain ⟨a0, a1, _⟩ := cells2 (h1.keep (new_block w _) (by simp)); have HF := Lib.hid h1; clear h1)
      go_ret
      refine ⟨ret_b ?_, ((Fr.refl [] w).alloc _).trans HF.out (by simp)⟩
      rw [HV.out, HG.out]
      first | (rw [HZ.out]; simp [h9, h8]; done) | simp [h9, h8, HZ.out] | (simp [h9, h8] <;> omega)
  · have t9 : ((t.size : Int) == 9) = false := by simp; omega
    by_cases h8 : f.size ≤ 8
    all_goals first
      | have t8 : decide ((f.size : Int) ≤ 8) = true := by simp; omega
      | have t8 : decide ((f.size : Int) ≤ 8) = false := by simp; omega
    all_goals by_cases h7 : t.size ≤ 8
    all_goals first
      | have t7 : decide ((t.size : Int) ≤ 8) = true := by simp; omega
      | have t7 : decide ((t.size : Int) ≤ 8) = false := by simp; omega
    all_goals cases E
    all_goals
      go_enter Try.func18, Try.ntmps18
      go_wp2_with (go_at_call 27; refine (HE.out _).mono ?_; rintro e w1 ⟨rfl, h1⟩; obtain ⟨a0, a1, _⟩ := cells2 (h1.keep (new_block w _) (by simp)); have HF := Lib.hid h1; clear h1)
      go_ret
      refine ⟨ret_b ?_, ((Fr.refl [] w).alloc _).trans HF.out (by simp)⟩
      rw [HV.out]
      simp [h9, h8, h7] <;> omega
theorem blk4 (w : World) (a b c d : Obj) : ((((w.alloc a).alloc b).alloc c).alloc d).heap[w.heap.size + 1 + 1]? = some c ∧ ((((w.alloc a).alloc b).alloc c).alloc d).heap[w.heap.size + 1 + 1 + 1]? = some d := by
  have h1 := new_block ((w.alloc a).alloc b) c
  have h2 := new_block (((w.alloc a).alloc b).alloc c) d
  have s1 : ((w.alloc a).alloc b).heap.size = w.heap.size + 1 + 1 := by simp
  have s2 : (((w.alloc a).alloc b).alloc c).heap.size = w.heap.size + 1 + 1 + 1 := by simp
  rw [s1] at h1
  rw [s2] at h2
  exact ⟨(Below.heap_alloc _ _ _ (by omega)).trans h1, h2⟩
/-- what Meet tells -/
def MeetOut (f t g u : ByteArray) (e : Ending) : Prop :=
  e = .returned (.tuple (if emptyB (mF f g).toList (mT t u).toList then #[.agg #[.string ⟨#[]⟩, .string ⟨#[]⟩], .bool false] else #[.agg #[.string (mF f g), .string (mT t u)], .bool true]))
end Go.Proofs.Ytcaildjmpeefbaa
