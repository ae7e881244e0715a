/- impostlaw14: awake, made: contracts -/
import Derived.Test.YtbbhekmhffhpfaaOrFitP
import Derived.Test.YtbbhekmhffhpfaaOrFits
import Derived.Deep.DeepCutAuto
namespace Go.Proofs.Ytbbhekmhffhpfaa
open Go.RowKit
set_option linter.unusedVariables false
set_option linter.unusedSimpArgs false

theorem ca_lit (w : World) (t : TypeId) (l : List Ca) (B : Nat) (hB : w.heap.size = B) (hl : l.length ≤ maxLen) : CaIn (w.alloc (.cells (allC Ca.cells l).toArray t)) (.slice (some ⟨B, 0, none⟩) l.length l.length) l := by
  subst hB
  refine ⟨some ⟨w.heap.size, 0, none⟩, l.length, rfl, Nat.le_refl _, hl, fun _ => ⟨w.heap.size, 0, rfl, by simp, fun i x hx j hj => ?_⟩⟩
  rw [cell_block (new_block w _), Nat.zero_add, ← allC_at Ca.clen l i x hx j hj]
  simp
def ka : ByteArray := ⟨#[97]⟩
def cA : Ca := ⟨1, ka, true, 0, 1⟩
def cB : Ca := ⟨1, ka, true, 2, 3⟩
def cC : Ca := ⟨1, ka, false, 0, 3⟩
def cD : Ca := ⟨2, ka, false, 0, -1⟩
theorem fits_a : fitsB [] [cA] = true := fitsB_true.2 ⟨by decide, by decide, Fit.turns (by simp) (by decide) (by decide)⟩
theorem fits_ac : fitsB [] [cA, cC] = true := fitsB_true.2 ⟨by decide, by decide, Fit.turns (by decide) (by decide) (by decide)⟩
theorem fits_ab : fitsB [] [cA, cB] = false := by
  refine fitsB_false.2 fun h => ?_
  rcases h.2.2.only (by decide) with h1 | ⟨c, hc, h1⟩
  · revert h1; decide
  · simp only [List.mem_cons, List.not_mem_nil, or_false] at hc
    rcases hc with rfl | rfl <;> (revert h1; decide)
theorem fits_abd : fitsB [] [cA, cB, cD] = true := by
  refine fitsB_true.2 ⟨by decide, by decide, ?_⟩
  refine Fit.step (a := []) (b := [cB, cD]) (by decide) (by decide) ?_
  refine Fit.step (a := [cB]) (b := []) (by decide) (by decide) ?_
  exact Fit.turns (by simp) (by decide) (by decide)
/-! awake -/
set_option maxRecDepth 100000 in
set_option maxHeartbeats 4000000 in
theorem or_awake (w : World) : Calls Try.prog 9 #[] w fun e w' => e = .returned (.bool true) ∧ Fr [] w w' := by
  have H0 : Hid (∀ W : World, Calls Try.prog 13 #[.slice none 0 0, .slice (some ⟨W.heap.size, 0, none⟩) 1 1] (W.alloc (.cells #[.int .i64 1, .string ⟨#[97]⟩, .bool true, .int .i64 0, .int .i64 1] 29)) fun e w' => e = .returned (.bool true) ∧ Fr [] (W.alloc (.cells #[.int .i64 1, .string ⟨#[97]⟩, .bool true, .int .i64 0, .int .i64 1] 29)) w') := Lib.hid fun W => by
    have h := or_fits (.slice none 0 0) (.slice (some ⟨W.heap.size, 0, none⟩) 1 1) [] [cA] (W.alloc (.cells #[.int .i64 1, .string ⟨#[97]⟩, .bool true, .int .i64 0, .int .i64 1] 29)) (LIn.nil _) (ca_lit W 29 [cA] _ rfl (by decide))
    rw [fits_a] at h; exact h
  have H1 : Hid (∀ W : World, Calls Try.prog 13 #[.slice none 0 0, .slice (some ⟨W.heap.size, 0, none⟩) 2 2] (W.alloc (.cells #[.int .i64 1, .string ⟨#[97]⟩, .bool true, .int .i64 0, .int .i64 1, .int .i64 1, .string ⟨#[97]⟩, .bool true, .int .i64 2, .int .i64 3] 29)) fun e w' => e = .returned (.bool false) ∧ Fr [] (W.alloc (.cells #[.int .i64 1, .string ⟨#[97]⟩, .bool true, .int .i64 0, .int .i64 1, .int .i64 1, .string ⟨#[97]⟩, .bool true, .int .i64 2, .int .i64 3] 29)) w') := Lib.hid fun W => by
    have h := or_fits (.slice none 0 0) (.slice (some ⟨W.heap.size, 0, none⟩) 2 2) [] [cA, cB] (W.alloc (.cells #[.int .i64 1, .string ⟨#[97]⟩, .bool true, .int .i64 0, .int .i64 1, .int .i64 1, .string ⟨#[97]⟩, .bool true, .int .i64 2, .int .i64 3] 29)) (LIn.nil _) (ca_lit W 29 [cA, cB] _ rfl (by decide))
    rw [fits_ab] at h; exact h
  have H2 : Hid (∀ W : World, Calls Try.prog 13 #[.slice none 0 0, .slice (some ⟨W.heap.size, 0, none⟩) 2 2] (W.alloc (.cells #[.int .i64 1, .string ⟨#[97]⟩, .bool true, .int .i64 0, .int .i64 1, .int .i64 1, .string ⟨#[97]⟩, .bool false, .int .i64 0, .int .i64 3] 29)) fun e w' => e = .returned (.bool true) ∧ Fr [] (W.alloc (.cells #[.int .i64 1, .string ⟨#[97]⟩, .bool true, .int .i64 0, .int .i64 1, .int .i64 1, .string ⟨#[97]⟩, .bool false, .int .i64 0, .int .i64 3] 29)) w') := Lib.hid fun W => by
    have h := or_fits (.slice none 0 0) (.slice (some ⟨W.heap.size, 0, none⟩) 2 2) [] [cA, cC] (W.alloc (.cells #[.int .i64 1, .string ⟨#[97]⟩, .bool true, .int .i64 0, .int .i64 1, .int .i64 1, .string ⟨#[97]⟩, .bool false, .int .i64 0, .int .i64 3] 29)) (LIn.nil _) (ca_lit W 29 [cA, cC] _ rfl (by decide))
    rw [fits_ac] at h; exact h
  have H3 : Hid (∀ W : World, Calls Try.prog 13 #[.slice none 0 0, .slice (some ⟨W.heap.size, 0, none⟩) 3 3] (W.alloc (.cells #[.int .i64 1, .string ⟨#[97]⟩, .bool true, .int .i64 0, .int .i64 1, .int .i64 1, .string ⟨#[97]⟩, .bool true, .int .i64 2, .int .i64 3, .int .i64 2, .string ⟨#[97]⟩, .bool false, .int .i64 0, .int .i64 (-1)] 29)) fun e w' => e = .returned (.bool true) ∧ Fr [] (W.alloc (.cells #[.int .i64 1, .string ⟨#[97]⟩, .bool true, .int .i64 0, .int .i64 1, .int .i64 1, .string ⟨#[97]⟩, .bool true, .int .i64 2, .int .i64 3, .int .i64 2, .string ⟨#[97]⟩, .bool false, .int .i64 0, .int .i64 (-1)] 29)) w') := Lib.hid fun W => by
    have h := or_fits (.slice none 0 0) (.slice (some ⟨W.heap.size, 0, none⟩) 3 3) [] [cA, cB, cD] (W.alloc (.cells #[.int .i64 1, .string ⟨#[97]⟩, .bool true, .int .i64 0, .int .i64 1, .int .i64 1, .string ⟨#[97]⟩, .bool true, .int .i64 2, .int .i64 3, .int .i64 2, .string ⟨#[97]⟩, .bool false, .int .i64 0, .int .i64 (-1)] 29)) (LIn.nil _) (ca_lit W 29 [cA, cB, cD] _ rfl (by decide))
    rw [fits_abd] at h; exact h
  have HAB : Hid (∀ W : World, Calls Try.prog 11 #[.agg #[.int .i64 1, .string ⟨#[97]⟩, .bool true, .int .i64 0, .int .i64 1], .agg #[.int .i64 1, .string ⟨#[97]⟩, .bool true, .int .i64 2, .int .i64 3]] W fun e w' => e = .returned (.bool true) ∧ Fr [] W w') := Lib.hid fun W => or_ahead cA cB W
  obtain ⟨w0, hw0⟩ : ∃ w0, w0 = (((w.alloc (.cells #[.int .i64 1, .string ⟨#[97]⟩, .bool true, .int .i64 0, .int .i64 1] 29)).alloc (.cells #[.int .i64 1, .string ⟨#[97]⟩, .bool true, .int .i64 2, .int .i64 3] 29)).alloc (.cells #[.int .i64 1, .string ⟨#[97]⟩, .bool false, .int .i64 0, .int .i64 3] 29)).alloc (.cells #[.int .i64 2, .string ⟨#[97]⟩, .bool false, .int .i64 0, .int .i64 (-1)] 29) := ⟨_, rfl⟩
  have hf0 : Fr [] w w0 := by rw [hw0]; exact ((((Fr.refl [] w).alloc _).alloc _).alloc _).alloc _
  have s1 : (w.alloc (.cells #[.int .i64 1, .string ⟨#[97]⟩, .bool true, .int .i64 0, .int .i64 1] 29)).heap.size = w.heap.size + 1 := by simp
  have s2 : ((w.alloc (.cells #[.int .i64 1, .string ⟨#[97]⟩, .bool true, .int .i64 0, .int .i64 1] 29)).alloc (.cells #[.int .i64 1, .string ⟨#[97]⟩, .bool true, .int .i64 2, .int .i64 3] 29)).heap.size = w.heap.size + 1 + 1 := by simp
  have s3 : (((w.alloc (.cells #[.int .i64 1, .string ⟨#[97]⟩, .bool true, .int .i64 0, .int .i64 1] 29)).alloc (.cells #[.int .i64 1, .string ⟨#[97]⟩, .bool true, .int .i64 2, .int .i64 3] 29)).alloc (.cells #[.int .i64 1, .string ⟨#[97]⟩, .bool false, .int .i64 0, .int .i64 3] 29)).heap.size = w.heap.size + 1 + 1 + 1 := by simp
  have A0 := Lib.hid (show w0.heap[w.heap.size]? = some (.cells #[.int .i64 1, .string ⟨#[97]⟩, .bool true, .int .i64 0, .int .i64 1] 29) by rw [hw0]; exact blk_alloc (blk_alloc (blk_alloc (new_block w _) _) _) _)
  have B0 := Lib.hid (show w0.heap[w.heap.size + 1]? = some (.cells #[.int .i64 1, .string ⟨#[97]⟩, .bool true, .int .i64 2, .int .i64 3] 29) by
    rw [hw0]
    have h := new_block (w.alloc (.cells #[.int .i64 1, .string ⟨#[97]⟩, .bool true, .int .i64 0, .int .i64 1] 29)) (.cells #[.int .i64 1, .string ⟨#[97]⟩, .bool true, .int .i64 2, .int .i64 3] 29)
    rw [s1] at h; exact blk_alloc (blk_alloc h _) _)
  have C0 := Lib.hid (show w0.heap[w.heap.size + 1 + 1]? = some (.cells #[.int .i64 1, .string ⟨#[97]⟩, .bool false, .int .i64 0, .int .i64 3] 29) by
    rw [hw0]
    have h := new_block ((w.alloc (.cells #[.int .i64 1, .string ⟨#[97]⟩, .bool true, .int .i64 0, .int .i64 1] 29)).alloc (.cells #[.int .i64 1, .string ⟨#[97]⟩, .bool true, .int .i64 2, .int .i64 3] 29)) (.cells #[.int .i64 1, .string ⟨#[97]⟩, .bool false, .int .i64 0, .int .i64 3] 29)
    rw [s2] at h; exact blk_alloc h _)
  have D0 := Lib.hid (show w0.heap[w.heap.size + 1 + 1 + 1]? = some (.cells #[.int .i64 2, .string ⟨#[97]⟩, .bool false, .int .i64 0, .int .i64 (-1)] 29) by
    rw [hw0]
    have h := new_block (((w.alloc (.cells #[.int .i64 1, .string ⟨#[97]⟩, .bool true, .int .i64 0, .int .i64 1] 29)).alloc (.cells #[.int .i64 1, .string ⟨#[97]⟩, .bool true, .int .i64 2, .int .i64 3] 29)).alloc (.cells #[.int .i64 1, .string ⟨#[97]⟩, .bool false, .int .i64 0, .int .i64 3] 29)) (.cells #[.int .i64 2, .string ⟨#[97]⟩, .bool false, .int .i64 0, .int .i64 (-1)] 29)
    rw [s3] at h; exact h)
  have HF0 := Lib.hid hf0
  have HW0 := Lib.hid hw0
  clear hw0 hf0 s1 s2 s3
  go_enter Try.func9, Try.ntmps9
  go_upto_region 5 with fail
  rw [← HW0.out]
  obtain ⟨a0, a1, a2, a3, a4, _⟩ := cells5 A0.out
  obtain ⟨b0, b1, b2, b3, b4, _⟩ := cells5 B0.out
  obtain ⟨c0, c1, c2, c3, c4, _⟩ := cells5 C0.out
  obtain ⟨d0, d1, d2, d3, d4, _⟩ := cells5 D0.out
  go_wp2_with (go_at_call 13; refine (H0.out _).mono ?_; rintro e w1 ⟨rfl, hf⟩; refine go_stop ?_)
  unfold Stop
  have hg0 : Fr [] w0 w1 := Fr.trans (T := []) ((Fr.refl [] w0).alloc _) hf (by simp)
  have HF1 := Lib.hid (Fr.trans (T := []) HF0.out hg0 (by simp))
  have A1 := Lib.hid (hg0.keep A0.out (by simp))
  have B1 := Lib.hid (hg0.keep B0.out (by simp))
  have C1 := Lib.hid (hg0.keep C0.out (by simp))
  have D1 := Lib.hid (hg0.keep D0.out (by simp))
  clear hf hg0 H0 a0 a1 a2 a3 a4 b0 b1 b2 b3 b4 c0 c1 c2 c3 c4 d0 d1 d2 d3 d4
  obtain ⟨a0, a1, a2, a3, a4, _⟩ := cells5 A1.out
  obtain ⟨b0, b1, b2, b3, b4, _⟩ := cells5 B1.out
  obtain ⟨c0, c1, c2, c3, c4, _⟩ := cells5 C1.out
  obtain ⟨d0, d1, d2, d3, d4, _⟩ := cells5 D1.out
  go_wp2_with (go_at_call 13; refine (H1.out _).mono ?_; rintro e w2 ⟨rfl, hf⟩; refine go_stop ?_)
  unfold Stop
  have hg1 : Fr [] w1 w2 := Fr.trans (T := []) ((Fr.refl [] w1).alloc _) hf (by simp)
  have HF2 := Lib.hid (Fr.trans (T := []) HF1.out hg1 (by simp))
  have A2 := Lib.hid (hg1.keep A1.out (by simp))
  have B2 := Lib.hid (hg1.keep B1.out (by simp))
  have C2 := Lib.hid (hg1.keep C1.out (by simp))
  have D2 := Lib.hid (hg1.keep D1.out (by simp))
  clear hf hg1 H1 a0 a1 a2 a3 a4 b0 b1 b2 b3 b4 c0 c1 c2 c3 c4 d0 d1 d2 d3 d4
  obtain ⟨a0, a1, a2, a3, a4, _⟩ := cells5 A2.out
  obtain ⟨b0, b1, b2, b3, b4, _⟩ := cells5 B2.out
  obtain ⟨c0, c1, c2, c3, c4, _⟩ := cells5 C2.out
  obtain ⟨d0, d1, d2, d3, d4, _⟩ := cells5 D2.out
  go_wp2_with (go_at_call 13; refine (H2.out _).mono ?_; rintro e w3 ⟨rfl, hf⟩; refine go_stop ?_)
  unfold Stop
  have hg2 : Fr [] w2 w3 := Fr.trans (T := []) ((Fr.refl [] w2).alloc _) hf (by simp)
  have HF3 := Lib.hid (Fr.trans (T := []) HF2.out hg2 (by simp))
  have A3 := Lib.hid (hg2.keep A2.out (by simp))
  have B3 := Lib.hid (hg2.keep B2.out (by simp))
  have C3 := Lib.hid (hg2.keep C2.out (by simp))
  have D3 := Lib.hid (hg2.keep D2.out (by simp))
  clear hf hg2 H2 a0 a1 a2 a3 a4 b0 b1 b2 b3 b4 c0 c1 c2 c3 c4 d0 d1 d2 d3 d4
  obtain ⟨a0, a1, a2, a3, a4, _⟩ := cells5 A3.out
  obtain ⟨b0, b1, b2, b3, b4, _⟩ := cells5 B3.out
  obtain ⟨c0, c1, c2, c3, c4, _⟩ := cells5 C3.out
  obtain ⟨d0, d1, d2, d3, d4, _⟩ := cells5 D3.out
  go_wp2_with (go_at_call 13; refine (H3.out _).mono ?_; rintro e w4 ⟨rfl, hf⟩; refine go_stop ?_)
  unfold Stop
  have hg3 : Fr [] w3 w4 := Fr.trans (T := []) ((Fr.refl [] w3).alloc _) hf (by simp)
  have HF4 := Lib.hid (Fr.trans (T := []) HF3.out hg3 (by simp))
  have A4 := Lib.hid (hg3.keep A3.out (by simp))
  have B4 := Lib.hid (hg3.keep B3.out (by simp))
  have C4 := Lib.hid (hg3.keep C3.out (by simp))
  have D4 := Lib.hid (hg3.keep D3.out (by simp))
  clear hf hg3 H3 a0 a1 a2 a3 a4 b0 b1 b2 b3 b4 c0 c1 c2 c3 c4 d0 d1 d2 d3 d4
  obtain ⟨a0, a1, a2, a3, a4, _⟩ := cells5 A4.out
  obtain ⟨b0, b1, b2, b3, b4, _⟩ := cells5 B4.out
  obtain ⟨c0, c1, c2, c3, c4, _⟩ := cells5 C4.out
  obtain ⟨d0, d1, d2, d3, d4, _⟩ := cells5 D4.out
  go_wp2_with (go_at_call 11; refine (HAB.out _).mono ?_; rintro e w5 ⟨rfl, hf⟩; have HF5 := Lib.hid (Fr.trans (T := []) HF4.out hf (by simp)); clear hf)
  go_ret
  exact ⟨rfl, HF5.out⟩
end Go.Proofs.Ytbbhekmhffhpfaa
