/- THE DOCUMENT's Fold (impostref05): its contract -/
import Derived.Test.YtmbfcdoemcffpaaEvOne
namespace Go.Proofs.Ytmbfcdoemcffpaa
open Go.RowKit
set_option linter.unusedVariables false
set_option linter.unusedSimpArgs false

theorem foldK_step {m : List Kv} {l : List Ev} {j : Nat} {x : Ev} (hx : l[j]? = some x) : foldK m (l.take (j + 1)) = oneK (foldK m (l.take j)) x := by
  rw [take_snoc hx, foldK_app]; rfl
set_option maxHeartbeats 1000000 in
theorem rfold_any (mv lv : Value) (m : List Kv) (l : List Ev) (w : World) (hm : KvIn w mv m) (hl : EvIn w lv l) (bm : m.length ≤ many) (bl : l.length ≤ many) : Calls Try.prog 27 #[mv, lv] w fun e w' => ∃ v, e = .returned v ∧ KvIn w' v (foldK m l) ∧ Fr [] w w' := by
  have HM := Lib.hid hm
  have HL := Lib.hid hl
  have HB := Lib.hid (And.intro bm bl)
  obtain ⟨s1, c1, rfl, la, ma⟩ := hl.form
  unfold maxLen at ma
  clear hm hl bm bl
  go_enter Try.func27, Try.ntmps27
  go_wp2_with fail
  go_loopw [0, 5] (fun v i wr => ∃ (j : Nat), i = .int .i64 j ∧ j ≤ l.length ∧ KvIn wr v (foldK m (l.take j)) ∧ Fr [] w wr) (fun _ i _ => l.length - (intOf i).toNat)
  case atStart => exact ⟨0, rfl, Nat.zero_le _, HM.out, Fr.refl _ _⟩
  case round =>
    obtain ⟨j, rfl, hj, ho, hf⟩ := hrel
    have HO := Lib.hid ho
    have HF := Lib.hid hf
    clear ho hf
    by_cases h : j < l.length
    · obtain ⟨x, hx⟩ : ∃ x, l[j]? = some x := ⟨_, List.getElem?_eq_getElem h⟩
      obtain ⟨g, off, c2, e1, _, l2, k2⟩ := EvIn.here (LIn.keep0 HL.out HF.out) (by omega)
      cases e1
      obtain ⟨p0, p1, p2, p3⟩ := k2 j x hx
      have HC := Lib.hid (rone_kv _ _ x wr HO.out (by have h1 := foldK_len (l.take j) m; have h2 := HB.out; rw [List.length_take] at h1; omega))
      unfold Ev.agg at HC
      have HSTEP := Lib.hid (foldK_step (m := m) hx)
      have t1 : decide (j < l.length) = true := by simpa using h
      clear hx k2
      go_wp2_with (go_at_call 48; refine HC.out.mono ?_; rintro e w1 ⟨v1, rfl, h1, h2⟩; have HO1 := Lib.hid (KvAt.read h1); have HF1 := Lib.hid (HF.out.trans h2 (by simp)); clear h1 h2)
      go_roundw
      case rel =>
        refine ⟨j + 1, by go_num, by omega, ?_, HF1.out⟩
        rw [HSTEP.out]
        exact HO1.out
      case measure => simp [intOf]; omega
    · have t1 : decide (j < l.length) = false := by simpa using h
      go_wp2
      go_ret
      refine ⟨_, rfl, ?_, HF.out⟩
      have := HO.out
      rw [List.take_of_length_le (by omega)] at this
      exact this
end Go.Proofs.Ytmbfcdoemcffpaa
