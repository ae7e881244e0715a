/- THE DOCUMENT's COMPARISONS of ops and strings (impostref07.Ops, Strings): contracts -/
import Derived.Test.YtjclbgeclopheaaTxAt
import Derived.Test.YtjclbgeclopheaaEvCmp
namespace Go.Proofs.Ytjclbgeclopheaa
open Go.RowKit
set_option linter.unusedVariables false
set_option linter.unusedSimpArgs false

def odB (a b : Od) : Bool := decide (a.key = b.key) && (decide (a.val = b.val) && decide (a.del = b.del))
theorem odB_eq {a b : Od} : odB a b = true ↔ a = b := by
  cases a; cases b; simp [odB]
def stB (a b : ByteArray) : Bool := decide (a = b)
theorem stB_eq {a b : ByteArray} : stB a b = true ↔ a = b := by simp [stB]
theorem run_neq_od (x y : Od) (w : World) : (binOp .neq 52 (.agg #[.string x.key, .string x.val, .bool x.del]) (.agg #[.string y.key, .string y.val, .bool y.del])).run Try.prog w = .ok (.bool (!(odB x y))) w := by
  have n1 : ∀ s t : ByteArray, (s.toList = t.toList) = (s = t) := fun s t => propext ⟨bs_inj, fun h => by rw [h]⟩
  unfold odB
  cases x with | mk xk xv xd xw =>
  cases y with | mk yk yv yd yw =>
  by_cases h0 : xk = yk
  all_goals by_cases h1 : xv = yv
  all_goals by_cases h2 : xd = yd
  all_goals simp [go_sem, h0, h1, h2, n1]
theorem run_eql_od (x y : Od) (w : World) : (binOp .eql 52 (.agg #[.string x.key, .string x.val, .bool x.del]) (.agg #[.string y.key, .string y.val, .bool y.del])).run Try.prog w = .ok (.bool ((odB x y))) w := by
  have n1 : ∀ s t : ByteArray, (s.toList = t.toList) = (s = t) := fun s t => propext ⟨bs_inj, fun h => by rw [h]⟩
  unfold odB
  cases x with | mk xk xv xd xw =>
  cases y with | mk yk yv yd yw =>
  by_cases h0 : xk = yk
  all_goals by_cases h1 : xv = yv
  all_goals by_cases h2 : xd = yd
  all_goals simp [go_sem, h0, h1, h2, n1]
theorem run_neq_st (x y : ByteArray) (w : World) : (binOp .neq 9 (.string x) (.string y)).run Try.prog w = .ok (.bool (!(stB x y))) w := by
  have n1 : (x.toList = y.toList) = (x = y) := propext ⟨bs_inj, fun h => by rw [h]⟩
  unfold stB
  by_cases h0 : x = y
  all_goals simp [go_sem, h0, n1]
set_option maxHeartbeats 1000000 in
theorem rops_any (av bv : Value) (a b : List Od) (w : World) (ha : OdIn w av a) (hb : OdIn w bv b) : Calls Try.prog 14 #[av, bv] w fun e w' => e = .returned (.bool (sameB odB a b)) ∧ Fr [] w w' := by
  have HA := Lib.hid ha
  have HB := Lib.hid hb
  obtain ⟨s1, c1, rfl, la, ma⟩ := ha.form
  obtain ⟨s2, c2, rfl, lb, mb⟩ := hb.form
  unfold maxLen at ma mb
  clear ha hb
  by_cases hl : a.length = b.length
  · have t0 : ((a.length : Int) == (b.length : Int)) = true := by simp; omega
    go_enter Try.func14, Try.ntmps14
    go_wp2_with fail
    go_loopw [5] (fun v wr => ∃ j : Nat, v = .int .i64 j ∧ j ≤ a.length ∧ sameB odB a b = sameB odB (a.drop j) (b.drop j) ∧ Fr [] w wr) (fun v _ => a.length - (intOf v).toNat)
    case atStart => exact ⟨0, rfl, Nat.zero_le _, rfl, Fr.refl _ _⟩
    case round =>
      obtain ⟨j, rfl, hj, hs, hf⟩ := hrel
      have HS := Lib.hid hs
      have HF := Lib.hid hf
      clear hs hf
      by_cases h : j < a.length
      · obtain ⟨x, hx⟩ : ∃ x, a[j]? = some x := ⟨_, List.getElem?_eq_getElem h⟩
        obtain ⟨y, hy⟩ : ∃ y, b[j]? = some y := ⟨_, List.getElem?_eq_getElem (by omega)⟩
        obtain ⟨g1, o1, d1, e1, _, l1, k1⟩ := OdIn.here (LIn.keep0 HA.out HF.out) (by omega)
        obtain ⟨g2, o2, d2, e2, _, l2, k2⟩ := OdIn.here (LIn.keep0 HB.out HF.out) (by omega)
        simp only [Value.slice.injEq] at e1 e2
        obtain ⟨rfl, _, rfl⟩ := e1
        obtain ⟨rfl, _, rfl⟩ := e2
        obtain ⟨p0, p1, p2⟩ := k1 j x hx
        obtain ⟨q0, q1, q2⟩ := k2 j y hy
        have HSTEP := Lib.hid (sameB_step (f := odB) hx hy)
        have t1 : decide (j < a.length) = true := by simpa using h
        have cmp := fun W => run_neq_od x y W
        clear hx hy k1 k2
        cases hE : odB x y
        all_goals
          rw [hE] at cmp
          have HE := Lib.hid hE
          clear hE
          go_wp2_with fail
          go_quiet (fail)
        · go_wp2
          go_ret
          refine ⟨?_, HF.out.drewN _⟩
          rw [HS.out, HSTEP.out, HE.out]; rfl
        · go_wp2
          go_roundw
          case rel =>
            refine ⟨j + 1, by go_num, by omega, ?_, HF.out.drewN _⟩
            rw [HS.out, HSTEP.out, HE.out]; rfl
          case measure => simp [intOf]; omega
      · have t1 : decide (j < a.length) = false := by simpa using h
        go_wp2
        go_ret
        refine ⟨?_, HF.out⟩
        rw [HS.out, List.drop_of_length_le (by omega), List.drop_of_length_le (by omega)]; rfl
  · have t0 : ((a.length : Int) == (b.length : Int)) = false := by simp; omega
    have HV := Lib.hid (sameB_len (f := odB) hl)
    clear hl
    go_enter Try.func14, Try.ntmps14
    go_wp2
    go_ret
    refine ⟨?_, Fr.refl _ _⟩
    rw [HV.out]
    simp [t0, bne]
set_option maxHeartbeats 1000000 in
theorem rstrs_any (av bv : Value) (a b : List ByteArray) (w : World) (ha : StIn w av a) (hb : StIn w bv b) : Calls Try.prog 24 #[av, bv] w fun e w' => e = .returned (.bool (sameB stB a b)) ∧ Fr [] w w' := by
  have HA := Lib.hid ha
  have HB := Lib.hid hb
  obtain ⟨s1, c1, rfl, la, ma⟩ := ha.form
  obtain ⟨s2, c2, rfl, lb, mb⟩ := hb.form
  unfold maxLen at ma mb
  clear ha hb
  by_cases hl : a.length = b.length
  · have t0 : ((a.length : Int) == (b.length : Int)) = true := by simp; omega
    go_enter Try.func24, Try.ntmps24
    go_wp2_with fail
    go_loopw [5] (fun v wr => ∃ j : Nat, v = .int .i64 j ∧ j ≤ a.length ∧ sameB stB a b = sameB stB (a.drop j) (b.drop j) ∧ Fr [] w wr) (fun v _ => a.length - (intOf v).toNat)
    case atStart => exact ⟨0, rfl, Nat.zero_le _, rfl, Fr.refl _ _⟩
    case round =>
      obtain ⟨j, rfl, hj, hs, hf⟩ := hrel
      have HS := Lib.hid hs
      have HF := Lib.hid hf
      clear hs hf
      by_cases h : j < a.length
      · obtain ⟨x, hx⟩ : ∃ x, a[j]? = some x := ⟨_, List.getElem?_eq_getElem h⟩
        obtain ⟨y, hy⟩ : ∃ y, b[j]? = some y := ⟨_, List.getElem?_eq_getElem (by omega)⟩
        obtain ⟨g1, o1, d1, e1, _, l1, k1⟩ := StIn.here (LIn.keep0 HA.out HF.out) (by omega)
        obtain ⟨g2, o2, d2, e2, _, l2, k2⟩ := StIn.here (LIn.keep0 HB.out HF.out) (by omega)
        simp only [Value.slice.injEq] at e1 e2
        obtain ⟨rfl, _, rfl⟩ := e1
        obtain ⟨rfl, _, rfl⟩ := e2
        have p0 := k1 j x hx
        have q0 := k2 j y hy
        have HSTEP := Lib.hid (sameB_step (f := stB) hx hy)
        have t1 : decide (j < a.length) = true := by simpa using h
        have hxy : (x.toList == y.toList) = stB x y := by
          unfold stB
          by_cases h0 : x = y
          · simp [h0]
          · rw [decide_eq_false h0, beq_eq_false_iff_ne]; exact fun e => h0 (bs_inj e)
        clear hx hy k1 k2
        cases hE : stB x y
        all_goals
          rw [hE] at hxy
          have HE := Lib.hid hE
          clear hE
          go_wp2_with fail
          go_quiet (fail)
        · go_wp2
          go_ret
          refine ⟨?_, HF.out.drewN _⟩
          rw [HS.out, HSTEP.out, HE.out]; rfl
        · go_wp2
          go_roundw
          case rel =>
            refine ⟨j + 1, by go_num, by omega, ?_, HF.out.drewN _⟩
            rw [HS.out, HSTEP.out, HE.out]; rfl
          case measure => simp [intOf]; omega
      · have t1 : decide (j < a.length) = false := by simpa using h
        go_wp2
        go_ret
        refine ⟨?_, HF.out⟩
        rw [HS.out, List.drop_of_length_le (by omega), List.drop_of_length_le (by omega)]; rfl
  · have t0 : ((a.length : Int) == (b.length : Int)) = false := by simp; omega
    have HV := Lib.hid (sameB_len (f := stB) hl)
    clear hl
    go_enter Try.func24, Try.ntmps24
    go_wp2
    go_ret
    refine ⟨?_, Fr.refl _ _⟩
    rw [HV.out]
    simp [t0, bne]
end Go.Proofs.Ytjclbgeclopheaa
