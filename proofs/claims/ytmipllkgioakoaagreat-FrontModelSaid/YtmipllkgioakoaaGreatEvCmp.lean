/- THE DOCUMENT's COMPARISONS OF EVENTS AND MAPS (impostref05.Events, KVs, Map): contracts -/
import Derived.Test.YtmipllkgioakoaaGreatIn
namespace Go.Proofs.YtmipllkgioakoaaGreat
open Go.RowKit
set_option linter.unusedVariables false
set_option linter.unusedSimpArgs false

theorem sameB_step {α : Type} {f : α → α → Bool} {a b : List α} {j : Nat} {x y : α} (hx : a[j]? = some x) (hy : b[j]? = some y) : sameB f (a.drop j) (b.drop j) = (f x y && sameB f (a.drop (j + 1)) (b.drop (j + 1))) := by
  obtain ⟨h1, rfl⟩ := List.getElem?_eq_some_iff.1 hx
  obtain ⟨h2, rfl⟩ := List.getElem?_eq_some_iff.1 hy
  rw [List.drop_eq_getElem_cons h1, List.drop_eq_getElem_cons h2]; rfl
theorem sameB_len {α : Type} {f : α → α → Bool} : ∀ {a b : List α}, ¬ a.length = b.length → sameB f a b = false
  | [], [], h => by simp at h
  | [], b :: s, _ => rfl
  | a :: r, [], _ => rfl
  | a :: r, b :: s, h => by
    have := sameB_len (f := f) (a := r) (b := s) (by simpa using h)
    simp [sameB, this]
theorem run_neq_ev (x y : Ev) (w : World) : (binOp .neq 63 (.agg #[.int .i64 x.rev, .string x.key, .string x.val, .bool x.del]) (.agg #[.int .i64 y.rev, .string y.key, .string y.val, .bool y.del])).run Tryz.prog w = .ok (.bool (!(evB x y))) w := by
  have n1 : ∀ s t : ByteArray, (s.toList = t.toList) = (s = t) := fun s t => propext ⟨bs_inj, fun h => by rw [h]⟩
  unfold evB
  cases x with | mk xr xk xv xd xw =>
  cases y with | mk yr yk yv yd yw =>
  by_cases h0 : xr = yr
  all_goals by_cases h1 : xk = yk
  all_goals by_cases h2 : xv = yv
  all_goals by_cases h3 : xd = yd
  all_goals simp [go_sem, h0, h1, h2, h3, n1]
theorem run_neq_kv (x y : Kv) (w : World) : (binOp .neq 83 (.agg #[.string x.key, .string x.val, .int .i64 x.rev]) (.agg #[.string y.key, .string y.val, .int .i64 y.rev])).run Tryz.prog w = .ok (.bool (!(kvB x y))) w := by
  have n1 : ∀ s t : ByteArray, (s.toList = t.toList) = (s = t) := fun s t => propext ⟨bs_inj, fun h => by rw [h]⟩
  unfold kvB
  cases x with | mk xk xv xr xw =>
  cases y with | mk yk yv yr yw =>
  by_cases h0 : xk = yk
  all_goals by_cases h1 : xv = yv
  all_goals by_cases h2 : xr = yr
  all_goals simp [go_sem, h0, h1, h2, n1]
theorem run_eql_kv (x y : Kv) (w : World) : (binOp .eql 83 (.agg #[.string x.key, .string x.val, .int .i64 x.rev]) (.agg #[.string y.key, .string y.val, .int .i64 y.rev])).run Tryz.prog w = .ok (.bool ((kvB x y))) w := by
  have n1 : ∀ s t : ByteArray, (s.toList = t.toList) = (s = t) := fun s t => propext ⟨bs_inj, fun h => by rw [h]⟩
  unfold kvB
  cases x with | mk xk xv xr xw =>
  cases y with | mk yk yv yr yw =>
  by_cases h0 : xk = yk
  all_goals by_cases h1 : xv = yv
  all_goals by_cases h2 : xr = yr
  all_goals simp [go_sem, h0, h1, h2, n1]
set_option maxHeartbeats 1000000 in
theorem rkvs_any (av bv : Value) (a b : List Kv) (w : World) (ha : KvIn w av a) (hb : KvIn w bv b) : Calls Tryz.prog 30 #[av, bv] w fun e w' => e = .returned (.bool (sameB kvB a b)) ∧ Fr [] w w' := by
  have HA := Lib.hid ha
  have HB := Lib.hid hb
  obtain ⟨s1, c1, rfl, la, ma⟩ := ha.form
  obtain ⟨s2, c2, rfl, lb, mb⟩ := hb.form
  unfold maxLen at ma mb
  clear ha hb
  by_cases hl : a.length = b.length
  · have t0 : ((a.length : Int) == (b.length : Int)) = true := by simp; omega
    go_enter Tryz.func30, Tryz.ntmps30
    go_wp2_with fail
    go_loopw [5] (fun v wr => ∃ j : Nat, v = .int .i64 j ∧ j ≤ a.length ∧ sameB kvB a b = sameB kvB (a.drop j) (b.drop j) ∧ Fr [] w wr) (fun v _ => a.length - (intOf v).toNat)
    case atStart => exact ⟨0, rfl, Nat.zero_le _, rfl, Fr.refl _ _⟩
    case round =>
      obtain ⟨j, rfl, hj, hs, hf⟩ := hrel
      have HS := Lib.hid hs
      have HF := Lib.hid hf
      clear hs hf
      by_cases h : j < a.length
      · obtain ⟨x, hx⟩ : ∃ x, a[j]? = some x := ⟨_, List.getElem?_eq_getElem h⟩
        obtain ⟨y, hy⟩ : ∃ y, b[j]? = some y := ⟨_, List.getElem?_eq_getElem (by omega)⟩
        obtain ⟨g1, o1, d1, e1, _, l1, k1⟩ := KvIn.here (LIn.keep0 HA.out HF.out) (by omega)
        obtain ⟨g2, o2, d2, e2, _, l2, k2⟩ := KvIn.here (LIn.keep0 HB.out HF.out) (by omega)
        simp only [Value.slice.injEq] at e1 e2
        obtain ⟨rfl, _, rfl⟩ := e1
        obtain ⟨rfl, _, rfl⟩ := e2
        obtain ⟨p0, p1, p2⟩ := k1 j x hx
        obtain ⟨q0, q1, q2⟩ := k2 j y hy
        have HSTEP := Lib.hid (sameB_step (f := kvB) hx hy)
        have t1 : decide (j < a.length) = true := by simpa using h
        have cmp := fun W => run_neq_kv x y W
        clear hx hy k1 k2
        cases hE : kvB x y
        all_goals
          rw [hE] at cmp
          have HE := Lib.hid hE
          clear hE
          go_wp2_with fail
          go_quiet (fail)
        · go_wp2
          go_ret
          refine ⟨?_, HF.out.drewN _⟩
          rw [HS.out, HSTEP.out, HE.out]; rfl
        · go_wp2
          go_roundw
          case rel =>
            refine ⟨j + 1, by go_num, by omega, ?_, HF.out.drewN _⟩
            rw [HS.out, HSTEP.out, HE.out]; rfl
          case measure => simp [intOf]; omega
      · have t1 : decide (j < a.length) = false := by simpa using h
        go_wp2
        go_ret
        refine ⟨?_, HF.out⟩
        rw [HS.out, List.drop_of_length_le (by omega), List.drop_of_length_le (by omega)]; rfl
  · have t0 : ((a.length : Int) == (b.length : Int)) = false := by simp; omega
    have HV := Lib.hid (sameB_len (f := kvB) hl)
    clear hl
    go_enter Tryz.func30, Tryz.ntmps30
    go_wp2
    go_ret
    refine ⟨?_, Fr.refl _ _⟩
    rw [HV.out]
    simp [t0, bne]
end Go.Proofs.YtmipllkgioakoaaGreat
