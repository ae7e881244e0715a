/- THE DOCUMENT's Fold (impostref05) OF A MAP THAT LIES OUTSIDE A STRUCTURE's BLOCKS: contract -/
import Derived.Test.YtmbfcdoemcffpaaEvFold
import Derived.Test.YtmbfcdoemcffpaaCuRows
namespace Go.Proofs.Ytmbfcdoemcffpaa
open Go.RowKit
set_option linter.unusedVariables false
set_option linter.unusedSimpArgs false

set_option maxHeartbeats 1000000 in
theorem rfold_far (S : List Nat) (mv lv : Value) (m : List Kv) (l : List Ev) (w : World) (hm : LFar S Kv.cells 3 w mv m) (hS : ∀ k ∈ S, k < w.heap.size) (hl : EvIn w lv l) (bm : m.length ≤ many) (bl : l.length ≤ many) : Calls Try.prog 27 #[mv, lv] w fun e w' => ∃ v, e = .returned v ∧ LFar S Kv.cells 3 w' v (foldK m l) ∧ Fr [] w w' := by
  have HM := Lib.hid hm
  have HSZ := Lib.hid hS
  have HL := Lib.hid hl
  have HB := Lib.hid (And.intro bm bl)
  obtain ⟨s1, c1, rfl, la, ma⟩ := hl.form
  unfold maxLen at ma
  clear hm hl bm bl hS
  go_enter Try.func27, Try.ntmps27
  go_wp2_with fail
  go_loopw [0, 5] (fun v i wr => ∃ (j : Nat), i = .int .i64 j ∧ j ≤ l.length ∧ LFar S Kv.cells 3 wr v (foldK m (l.take j)) ∧ Fr [] w wr) (fun _ i _ => l.length - (intOf i).toNat)
  case atStart => exact ⟨0, rfl, Nat.zero_le _, HM.out, Fr.refl _ _⟩
  case round =>
    obtain ⟨j, rfl, hj, ho, hf⟩ := hrel
    have HO := Lib.hid ho
    have HF := Lib.hid hf
    clear ho hf
    by_cases h : j < l.length
    · obtain ⟨x, hx⟩ : ∃ x, l[j]? = some x := ⟨_, List.getElem?_eq_getElem h⟩
      obtain ⟨g, off, c2, e1, _, l2, k2⟩ := EvIn.here (LIn.keep0 HL.out HF.out) (by omega)
      cases e1
      obtain ⟨p0, p1, p2, p3⟩ := k2 j x hx
      have HC := Lib.hid (rone_kv_new _ _ x wr HO.out.lin (by have h1 := foldK_len (l.take j) m; have h2 := HB.out; rw [List.length_take] at h1; omega))
      unfold Ev.agg at HC
      have HSTEP := Lib.hid (foldK_step (m := m) hx)
      have t1 : decide (j < l.length) = true := by simpa using h
      clear hx k2
      go_wp2_with (go_at_call 48; refine HC.out.mono ?_; rintro e w1 ⟨v1, rfl, h1, h2, h3⟩; have HO1 : Hid (LFar S Kv.cells 3 w1 v1 (oneK (foldK m (l.take j)) x)) := Lib.hid (LFar.of_new (w := wr) (KvAt.read h1) h3 (fun k hk => by have := HSZ.out k hk; have := HF.out.size; omega)); have HF1 := Lib.hid (HF.out.trans h2 (by simp)); clear h1 h2 h3)
      go_roundw
      case rel =>
        refine ⟨j + 1, by go_num, by omega, ?_, HF1.out⟩
        rw [HSTEP.out]
        exact HO1.out
      case measure => simp [intOf]; omega
    · have t1 : decide (j < l.length) = false := by simpa using h
      go_wp2
      go_ret
      refine ⟨_, rfl, ?_, HF.out⟩
      have := HO.out
      rw [List.take_of_length_le (by omega)] at this
      exact this
end Go.Proofs.Ytmbfcdoemcffpaa
