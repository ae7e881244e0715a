/- WHAT ALL LAWS OF token BEGIN WITH: the example; made -/
import Derived.Test.YtcaildjmpeefbaaToken
namespace Go.Proofs.Ytcaildjmpeefbaa
open Go.RowKit
set_option linter.unusedVariables false
set_option linter.unusedSimpArgs false

theorem tok_made (T : Tk) (w : World) : Calls Try.prog 11 #[tkVal T] w fun e w' => e = .returned (tkVal T) ∧ Fr [] w w' := by
  unfold tkVal
  have HF : Hid (Fr [] w (w.alloc (.cells #[.string T.f, .string T.t, .int .i64 T.next, .bool T.once] 25))) := Lib.hid ((Fr.refl [] w).alloc _)
  go_enter Try.func11, Try.ntmps11
  go_wp2
  refine bodyPost_ret (v := .agg #[.string T.f, .string T.t, .int .i64 T.next, .bool T.once]) (by simp [results, Try.results11, go_sem, *]) rfl ⟨rfl, HF.out.alloc _⟩
def tk5 : Tk := ⟨⟨#[]⟩, ⟨#[]⟩, 5, false⟩
theorem put5 : putT tk5 = [119, 0, 5, 0, 0] := by
  have e : tk5.f.toList = [] ∧ tk5.t.toList = [] := by simp [tk5, ByteArray.toList_eq]
  unfold putT
  rw [e.1, e.2]
  decide
theorem may5 : mayT tk5 = true := by
  have e : tk5.f.toList = [] ∧ tk5.t.toList = [] := by simp [tk5, ByteArray.toList_eq]
  unfold mayT
  rw [e.1, e.2]
  decide
theorem take5x : takeT ((tkBa [119, 0, 5, 0, 0] ++ ⟨#[120]⟩ : ByteArray)).toList = none := by
  rw [cat_list, list_tkBa, ← put5]
  rw [show (⟨#[120]⟩ : ByteArray).toList = [120] by simp [ByteArray.toList_eq]]
  exact take_more (take_put may5) 120
theorem tok_awake (w : World) : Calls Try.prog 9 #[] w fun e w' => e = .returned (.bool true) ∧ Fr [] w w' := by
  go_enter Try.func9, Try.ntmps9
  have HB := Lib.hid (new_block w (.cells #[.string tk5.f, .string tk5.t, .int .i64 tk5.next, .bool tk5.once] 28))
  have HF := Lib.hid ((Fr.refl [] w).alloc (.cells #[.string tk5.f, .string tk5.t, .int .i64 tk5.next, .bool tk5.once] 28))
  go_wp2_with (go_at_call 13; refine go_stop ?_)
  unfold Stop
  refine (tok_put tk5 _ (by decide) (by decide) (by decide)).mono ?_
  rintro e w1 ⟨rfl, hw1⟩
  dsimp only
  have HB1 := Lib.hid (hw1.keep HB.out (by simp))
  have HF1 := Lib.hid (HF.out.trans hw1 (by simp))
  clear HB HF hw1
  obtain ⟨t0, t1, t2, t3, _⟩ := cells4 HB1.out
  rw [put5]
  go_wp2_with (go_at_call 15; refine go_stop ?_)
  unfold Stop
  refine (tok_take _ _ (by decide)).mono ?_
  rintro e w2 ⟨rfl, hw2⟩
  rw [list_tkBa, ← put5, take_put may5, put5]
  unfold takeV tkVal
  dsimp only
  have HB2 := hw2.keep HB1.out (by simp)
  have HF2 := Lib.hid (HF1.out.trans hw2 (by simp))
  clear HB1 HF1 hw2 t0 t1 t2 t3
  obtain ⟨t0, t1, t2, t3, _⟩ := cells4 HB2
  have hlt := lt_of_block HB2
  have HB3 := Lib.hid HB2
  clear HB2
  have n1 : ¬ w2.heap.size = w.heap.size := by omega
  have n2 : ¬ w.heap.size = w2.heap.size := by omega
  have ad := add_str (tkBa [119, 0, 5, 0, 0]) ⟨#[120]⟩ (by decide)
  go_wp2_with (go_at_call 15; refine go_stop ?_)
  unfold Stop
  have HB4 := ((Fr.refl [] w2).alloc (.cells #[.string tk5.f, .string tk5.t, .int .i64 tk5.next, .bool tk5.once] 28)).keep HB3.out (by simp)
  have HBU := new_block w2 (.cells #[.string tk5.f, .string tk5.t, .int .i64 tk5.next, .bool tk5.once] 28)
  have HF3 := Lib.hid (HF2.out.alloc (.cells #[.string tk5.f, .string tk5.t, .int .i64 tk5.next, .bool tk5.once] 28))
  clear HF2 HB3 t0 t1 t2 t3 ad
  generalize w2.alloc (.cells #[.string tk5.f, .string tk5.t, .int .i64 tk5.next, .bool tk5.once] 28) = w3 at *
  refine (tok_take _ _ (by decide)).mono ?_
  rintro e w4 ⟨rfl, hw4⟩
  rw [take5x]
  unfold takeV tkVal
  dsimp only
  have HB5 := Lib.hid (hw4.keep HB4 (by simp))
  have HU5 := Lib.hid (hw4.keep HBU (by simp))
  have HF5 := Lib.hid (HF3.out.trans hw4 (by simp))
  clear HB4 HBU HF3 hw4
  obtain ⟨t0, t1, t2, t3, _⟩ := cells4 HB5.out
  obtain ⟨u0, u1, u2, u3, _⟩ := cells4 HU5.out
  have l1 := lt_of_block HB5.out
  have l2 := lt_of_block HU5.out
  have n3 : ¬ w4.heap.size = w.heap.size := by omega
  have n4 : ¬ w.heap.size = w4.heap.size := by omega
  have n5 : ¬ w4.heap.size = w2.heap.size := by omega
  have n6 : ¬ w2.heap.size = w4.heap.size := by omega
  have e5 : (tkBa [119, 0, 5, 0, 0]).toList = [119, 0, 5, 0, 0] := list_tkBa _
  have HPU := put5
  go_wp2_with (go_at_call 10; refine go_stop ?_)
  unfold Stop
  refine (tok_may tk5 _ (by decide) (by decide)).mono ?_
  rintro e w6 ⟨rfl, hw6⟩
  dsimp only
  rw [may5]
  go_wp2
  go_ret
  exact ⟨rfl, (HF5.out.alloc _).trans hw6 (by simp)⟩
end Go.Proofs.Ytcaildjmpeefbaa
