/- THE DOCUMENT's Same (impostref10): of two notices that are the same: contract -/
import Derived.Test.YtmbfcdoemcffpaaCuRef
namespace Go.Proofs.Ytmbfcdoemcffpaa
open Go.RowKit
set_option linter.unusedVariables false
set_option linter.unusedSimpArgs false

set_option maxHeartbeats 1000000 in
theorem rcu_same (N : Nt) (av bv : Value) (w : World) (ha : RowsIn w av N.rows) (hb : RowsIn w bv N.rows) : Calls Try.prog 13 #[ntV N av, ntV N bv] w fun e w' => e = .returned (.bool true) ∧ Fr [] w w' := by
  obtain ⟨err, hor, upto, rows⟩ := N
  unfold ntV
  have HA := Lib.hid ha
  have HB := Lib.hid hb
  obtain ⟨s1, c1, rfl, la, ma⟩ := ha.form
  obtain ⟨s2, c2, rfl, lb, mb⟩ := hb.form
  unfold maxLen at ma mb
  clear ha hb
  obtain ⟨wb, hwb⟩ : ∃ wb, wb = (w.alloc (Obj.cells #[.int .i64 err, .int .i64 hor, .int .i64 upto, .slice s1 rows.length c1] 39)).alloc (Obj.cells #[.int .i64 err, .int .i64 hor, .int .i64 upto, .slice s2 rows.length c2] 39) := ⟨_, rfl⟩
  have HWB := Lib.hid hwb
  have HXA : Hid (wb.heap[w.heap.size]? = some (.cells #[.int .i64 err, .int .i64 hor, .int .i64 upto, .slice s1 rows.length c1] 39 (0, 0))) := Lib.hid (by rw [hwb]; exact blk_new2 w _ _)
  have HXB : Hid (wb.heap[w.heap.size + 1]? = some (.cells #[.int .i64 err, .int .i64 hor, .int .i64 upto, .slice s2 rows.length c2] 39 (0, 0))) := Lib.hid (by rw [hwb]; exact nblk_at (by simp))
  have HF0 : Hid (Fr [] w wb) := Lib.hid (by rw [hwb]; exact ((Fr.refl [] w).alloc _).alloc _)
  clear hwb
  go_enter Try.func13, Try.ntmps13
  go_wp2_with fail
  rw [← HWB.out]
  go_loopw [5] (fun v wr => ∃ j : Nat, v = .int .i64 j ∧ j ≤ rows.length ∧ Fr [] wb wr) (fun v _ => rows.length - (intOf v).toNat)
  case atStart => exact ⟨0, rfl, Nat.zero_le _, Fr.refl _ _⟩
  case round =>
    obtain ⟨j, rfl, hj, hf⟩ := hrel
    have HF := Lib.hid hf
    obtain ⟨a0, a1, a2, a3, _⟩ := cells4 (hf.keep HXA.out (by simp))
    obtain ⟨b0, b1, b2, b3, _⟩ := cells4 (hf.keep HXB.out (by simp))
    clear hf
    by_cases h : j < rows.length
    · obtain ⟨x, hx⟩ : ∃ x, rows[j]? = some x := ⟨_, List.getElem?_eq_getElem h⟩
      obtain ⟨g, off, d1, e1, l1, k1⟩ := RowsIn.here ((HA.out.keep0 HF0.out).keep0 HF.out) (by omega)
      obtain ⟨g', off', d2, e2, l2, k2⟩ := RowsIn.here ((HB.out.keep0 HF0.out).keep0 HF.out) (by omega)
      simp only [Value.slice.injEq] at e1 e2
      obtain ⟨rfl, _, rfl⟩ := e1
      obtain ⟨rfl, _, rfl⟩ := e2
      obtain ⟨u, hu, hur⟩ := k1 j x hx
      obtain ⟨u', hu', hur'⟩ := k2 j x hx
      have HUR := Lib.hid hur
      have HUR' := Lib.hid hur'
      have t1 : decide (j < rows.length) = true := by simpa using h
      have HS : Hid (sameB evB x x = true) := Lib.hid ((sameB_eq evB_eq).2 rfl)
      clear hx k1 k2 hur hur'
      have A0 := fun n : After [] wr => n.cell a3 (by simp)
      have A1 := fun n : After [] wr => n.cell b3 (by simp)
      have A2 := fun n : After [] wr => n.cell hu (by simp)
      have A3 := fun n : After [] wr => n.cell hu' (by simp)
      go_wp2_with fail
      refine wp_region_after [] (by kernel_rfl) (by kernel_rfl) ?_
      repeat (go_big_quiet_step ((go_at_call 32; exact After.quiet_bool (revents_any _ _ _ _ _ (LIn.keep0 HUR.out (After.fr _)) (LIn.keep0 HUR'.out (After.fr _))) HS.out)))
      refine wpQuiet_nil ?_
      rintro _ ⟨nq, rfl⟩
      have HN := Lib.hid (HF.out.trans nq.fr (by simp))
      go_wp2_with fail
      go_roundw
      case rel => exact ⟨j + 1, by go_num, by omega, HN.out⟩
      case measure => simp [intOf]; omega
    · have t1 : decide (j < rows.length) = false := by simpa using h
      go_wp2
      go_ret
      exact ⟨rfl, HF0.out.trans HF.out (by simp)⟩
end Go.Proofs.Ytmbfcdoemcffpaa
