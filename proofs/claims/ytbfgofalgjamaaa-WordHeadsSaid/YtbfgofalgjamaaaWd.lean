/- PACKAGE word AND ITS REFERENCE: states and heads as one number, plainly; what each function tells -/
import Derived.Test.YtbfgofalgjamaaaAfter
import Derived.Laws.BitsLemmas
import Derived.Deep.DeepCutAuto
namespace Go.Proofs.Ytbfgofalgjamaaa
open Go.RowKit
set_option linter.unusedVariables false
set_option linter.unusedSimpArgs false

/-- what an uint64 is -/
abbrev IsU (n : Int) : Prop := 0 ≤ n ∧ n < 18446744073709551616
def packW (s i : Int) : Int := (i * 4 + s % 4) % 18446744073709551616
def headW (s r h : Int) : Int := (s * 1099511627776 + r % 1048576 * 1048576 + h % 1048576) % 18446744073709551616
def mayW (s r h : Int) : Bool := decide (0 ≤ s ∧ s < 16777216 ∧ 0 ≤ h ∧ h ≤ r ∧ r < 1048576)
def hdV (s r h : Int) : Value := .agg #[.int .i64 s, .int .i64 r, .int .i64 h]
theorem isU_packW (s i : Int) : IsU (packW s i) := by unfold IsU packW; omega
theorem isU_headW (s r h : Int) : IsU (headW s r h) := by unfold IsU headW; omega
theorem wraps_uw : ∀ n : Int, 0 ≤ n → n < 2 ^ 64 → IntKind.u64.wrap n = n := by
  intro n h0 h1; rw [show IntKind.u64.wrap n = n % 18446744073709551616 by simp [IntKind.wrap, IntKind.bits, IntKind.signed]]; omega
theorem or_up (i : Nat) (x y : Int) (h0 : 0 ≤ x) (hx : x % 2 ^ i = 0) (h1 : x < 18446744073709551616) (y0 : 0 ≤ y) (y1 : y < 2 ^ i) (y2 : y < 18446744073709551616) : bits BinOp.or IntKind.u64 x y = x + y :=
  bits_join .u64 64 (by decide) wraps_uw i x y h0 hx h1 y0 y1 y2
theorem w64 {n : Int} (h0 : -9223372036854775808 ≤ n) (h1 : n ≤ 9223372036854775807) : wrap64 n = n := IntWalk.wrap64_in n ⟨h0, h1⟩

theorem uw (n : Int) : IntKind.u64.wrap n = n % 18446744073709551616 := by simp [IntKind.wrap, IntKind.bits, IntKind.signed]
theorem pack_eq (s i : Int) : IntKind.u64.wrap (IntKind.u64.wrap (IntKind.u64.wrap i * 4) + (IntKind.u64.wrap s).tmod 4) = packW s i := by
  simp only [uw]
  rw [Int.tmod_eq_emod_of_nonneg (by omega)]
  unfold packW
  omega
theorem pack_eq' (s i : Int) : IntKind.u64.wrap (IntKind.u64.wrap (4 * IntKind.u64.wrap i) + (IntKind.u64.wrap s).tmod 4) = packW s i := by
  rw [Int.mul_comm 4]; exact pack_eq s i
theorem head_eq (s r h : Int) : IntKind.u64.wrap (IntKind.u64.wrap (IntKind.u64.wrap (IntKind.u64.wrap s * 1099511627776) + IntKind.u64.wrap ((IntKind.u64.wrap r).tmod 1048576 * 1048576)) + (IntKind.u64.wrap h).tmod 1048576) = headW s r h := by
  simp only [uw]
  rw [Int.tmod_eq_emod_of_nonneg (by omega), Int.tmod_eq_emod_of_nonneg (by omega)]
  unfold headW
  omega
theorem wd_pack (s i : Int) (w : World) : Calls Try.prog 10 #[.int .i64 s, .int .i64 i] w fun e w' => e = .returned (.int .u64 (packW s i)) ∧ w = w' := by
  go_enter Try.func10, Try.ntmps10
  go_wp2
  go_ret
  exact ⟨congrArg (fun z => Ending.returned (.int .u64 z)) (pack_eq s i), rfl⟩
theorem rwd_pack (s i : Int) (w : World) : Calls Try.prog 11 #[.int .i64 s, .int .i64 i] w fun e w' => e = .returned (.int .u64 (packW s i)) ∧ w = w' := by
  go_enter Try.func11, Try.ntmps11
  go_wp2
  go_ret
  exact ⟨congrArg (fun z => Ending.returned (.int .u64 z)) (pack_eq' s i), rfl⟩
theorem wd_state (n : Int) (w : World) (h : IsU n) : Calls Try.prog 12 #[.int .u64 n] w fun e w' => e = .returned (.int .i64 (n % 4)) ∧ w = w' := by
  obtain ⟨h0, h1⟩ := h
  go_enter Try.func12, Try.ntmps12
  go_wp2
  go_ret
  refine ⟨?_, rfl⟩
  first | rfl | (rw [w64 (by omega) (by omega)])
theorem rwd_state (n : Int) (w : World) (h : IsU n) : Calls Try.prog 13 #[.int .u64 n] w fun e w' => e = .returned (.int .i64 (n % 4)) ∧ w = w' := by
  obtain ⟨h0, h1⟩ := h
  go_enter Try.func13, Try.ntmps13
  go_wp2
  go_ret
  refine ⟨?_, rfl⟩
  first | rfl | (rw [w64 (by omega) (by omega)])
theorem wd_info (n : Int) (w : World) (h : IsU n) : Calls Try.prog 14 #[.int .u64 n] w fun e w' => e = .returned (.int .i64 (n / 4)) ∧ w = w' := by
  obtain ⟨h0, h1⟩ := h
  go_enter Try.func14, Try.ntmps14
  go_wp2
  go_ret
  refine ⟨?_, rfl⟩
  first | rfl | (rw [w64 (by omega) (by omega)])
theorem rwd_info (n : Int) (w : World) (h : IsU n) : Calls Try.prog 15 #[.int .u64 n] w fun e w' => e = .returned (.int .i64 (n / 4)) ∧ w = w' := by
  obtain ⟨h0, h1⟩ := h
  go_enter Try.func15, Try.ntmps15
  go_wp2
  go_ret
  refine ⟨?_, rfl⟩
  first | rfl | (rw [w64 (by omega) (by omega)])
theorem wd_low (n : Int) (w : World) (h : IsU n) : Calls Try.prog 22 #[.int .u64 n] w fun e w' => e = .returned (.int .u64 (n % 1048576)) ∧ w = w' := by
  obtain ⟨h0, h1⟩ := h
  go_enter Try.func22, Try.ntmps22
  go_wp2
  go_ret
  refine ⟨?_, rfl⟩
  first | rfl | (rw [w64 (by omega) (by omega)])
theorem wd_may (s r h : Int) (w : World) : Calls Try.prog 20 #[hdV s r h] w fun e w' => e = .returned (.bool (mayW s r h)) ∧ Fr [] w w' := by
  unfold hdV
  have HF : Hid (Fr [] w (w.alloc (.cells #[.int .i64 s, .int .i64 r, .int .i64 h] 28))) := Lib.hid ((Fr.refl [] w).alloc _)
  go_enter Try.func20, Try.ntmps20
  go_wp2
  all_goals
    go_ret
    refine ⟨congrArg (fun z => Ending.returned (.bool z)) ?_, HF.out⟩
    unfold mayW
    first
      | (rw [decide_eq_decide]; omega)
      | (symm; rw [decide_eq_false_iff_not]; omega)
theorem rwd_may (s r h : Int) (w : World) : Calls Try.prog 21 #[hdV s r h] w fun e w' => e = .returned (.bool (mayW s r h)) ∧ Fr [] w w' := by
  unfold hdV
  have HF : Hid (Fr [] w (w.alloc (.cells #[.int .i64 s, .int .i64 r, .int .i64 h] 28))) := Lib.hid ((Fr.refl [] w).alloc _)
  go_enter Try.func21, Try.ntmps21
  go_wp2
  all_goals
    go_ret
    refine ⟨congrArg (fun z => Ending.returned (.bool z)) ?_, HF.out⟩
    unfold mayW
    first
      | (rw [decide_eq_decide]; omega)
      | (symm; rw [decide_eq_false_iff_not]; omega)
theorem rwd_head (s r h : Int) (w : World) : Calls Try.prog 17 #[hdV s r h] w fun e w' => e = .returned (.int .u64 (headW s r h)) ∧ Fr [] w w' := by
  unfold hdV
  have HF : Hid (Fr [] w (w.alloc (.cells #[.int .i64 s, .int .i64 r, .int .i64 h] 28))) := Lib.hid ((Fr.refl [] w).alloc _)
  go_enter Try.func17, Try.ntmps17
  go_wp2
  go_ret
  exact ⟨congrArg (fun z => Ending.returned (.int .u64 z)) (head_eq s r h), HF.out⟩
theorem rwd_open (n : Int) (w : World) (h : IsU n) : Calls Try.prog 19 #[.int .u64 n] w fun e w' => e = .returned (hdV (n / 1099511627776) (n / 1048576 % 1048576) (n % 1048576)) ∧ Fr [] w w' := by
  obtain ⟨h0, h1⟩ := h
  have e1 : wrap64 (n / 1099511627776) = n / 1099511627776 := w64 (by omega) (by omega)
  have e2 : wrap64 (n / 1048576 % 1048576) = n / 1048576 % 1048576 := w64 (by omega) (by omega)
  have e3 : wrap64 (n % 1048576) = n % 1048576 := w64 (by omega) (by omega)
  unfold hdV
  go_enter Try.func19, Try.ntmps19
  go_wp2
  refine bodyPost_ret (v := .agg #[.int .i64 (n / 1099511627776), .int .i64 (n / 1048576 % 1048576), .int .i64 (n % 1048576)]) (by simp [results, Try.results19, go_sem, *]) rfl ⟨rfl, (Fr.refl [] w).alloc _⟩
/-- the function tells v, in every world, and changes nothing that was there -/
structure CW (fn : FuncId) (args : Array Value) (v : Value) : Prop where
  out : ∀ W, Calls Try.prog fn args W fun e w' => e = .returned v ∧ Fr [] W w'
theorem to_fr {fn : FuncId} {args : Array Value} {v : Value} (h : ∀ W, Calls Try.prog fn args W fun e w' => e = .returned v ∧ W = w') : CW fn args v :=
  ⟨fun W => (h W).mono fun e w' ⟨he, hw⟩ => ⟨he, hw ▸ Fr.refl [] W⟩⟩
theorem isU_wrap (n : Int) : IsU (IntKind.u64.wrap n) := by rw [uw]; unfold IsU; omega
theorem head_or (s r h : Int) : bits BinOp.or IntKind.u64 (bits BinOp.or IntKind.u64 (IntKind.u64.wrap (IntKind.u64.wrap s * 1099511627776)) (IntKind.u64.wrap r % 1048576 * 1048576)) (IntKind.u64.wrap h % 1048576) = headW s r h := by
  simp only [uw]
  rw [or_up 40 _ (r % 18446744073709551616 % 1048576 * 1048576) (by omega) (by omega) (by omega) (by omega) (by omega) (by omega)]
  rw [or_up 20 _ (h % 18446744073709551616 % 1048576) (by omega) (by omega) (by omega) (by omega) (by omega) (by omega)]
  unfold headW
  omega
theorem wd_head (s r h : Int) (w : World) : Calls Try.prog 16 #[hdV s r h] w fun e w' => e = .returned (.int .u64 (headW s r h)) ∧ Fr [] w w' := by
  unfold hdV
  have HF : Hid (Fr [] w (w.alloc (.cells #[.int .i64 s, .int .i64 r, .int .i64 h] 28))) := Lib.hid ((Fr.refl [] w).alloc _)
  have HB := Lib.hid (new_block w (.cells #[.int .i64 s, .int .i64 r, .int .i64 h] 28))
  have c1 : CW 22 #[.int .u64 (IntKind.u64.wrap r)] (.int .u64 (IntKind.u64.wrap r % 1048576)) := to_fr fun W => wd_low _ W (isU_wrap r)
  have c2 : CW 22 #[.int .u64 (IntKind.u64.wrap h)] (.int .u64 (IntKind.u64.wrap h % 1048576)) := to_fr fun W => wd_low _ W (isU_wrap h)
  go_enter Try.func16, Try.ntmps16
  go_wp2_with fail
  obtain ⟨t0, t1, t2, _⟩ := cells3 HB.out
  generalize w.alloc (.cells #[.int .i64 s, .int .i64 r, .int .i64 h] 28) = w1 at *
  have A0 := fun n : After [] w1 => n.cell t0 (by simp)
  have A1 := fun n : After [] w1 => n.cell t1 (by simp)
  have A2 := fun n : After [] w1 => n.cell t2 (by simp)
  refine wp_region_after [] (by kernel_rfl) (by kernel_rfl) ?_
  repeat (go_big_quiet_step (first
    | (go_at_call 22; with_reducible exact After.quiet (c1.out _))
    | (go_at_call 22; with_reducible exact After.quiet (c2.out _))))
  refine wpQuiet_nil ?_
  rintro _ ⟨nq, rfl⟩
  go_wp2
  go_ret
  exact ⟨congrArg (fun z => Ending.returned (.int .u64 z)) (head_or s r h), HF.out.trans nq.fr (by simp)⟩
theorem wd_open (n : Int) (w : World) (h : IsU n) : Calls Try.prog 18 #[.int .u64 n] w fun e w' => e = .returned (hdV (n / 1099511627776) (n / 1048576 % 1048576) (n % 1048576)) ∧ Fr [] w w' := by
  have h' := h
  obtain ⟨h0, h1⟩ := h
  have e1 : wrap64 (n / 1099511627776) = n / 1099511627776 := w64 (by omega) (by omega)
  have e2 : wrap64 (n / 1048576 % 1048576) = n / 1048576 % 1048576 := w64 (by omega) (by omega)
  have e3 : wrap64 (n % 1048576) = n % 1048576 := w64 (by omega) (by omega)
  have c1 : CW 22 #[.int .u64 (n / 1048576)] (.int .u64 (n / 1048576 % 1048576)) := to_fr fun W => wd_low _ W ⟨by omega, by omega⟩
  have c2 : CW 22 #[.int .u64 n] (.int .u64 (n % 1048576)) := to_fr fun W => wd_low _ W h'
  unfold hdV
  go_enter Try.func18, Try.ntmps18
  go_wp2_with (go_at_call 22; refine go_stop ?_)
  unfold Stop
  refine (c1.out _).mono ?_
  rintro e w1 ⟨rfl, k1⟩
  dsimp only
  have HF : Hid (Fr [] w w1) := Lib.hid (((Fr.refl [] w).alloc (.cells #[.int .i64 0, .int .i64 0, .int .i64 0] 28)).trans k1 (by simp))
  have HB := Lib.hid (k1.keep (new_block w (.cells #[.int .i64 0, .int .i64 0, .int .i64 0] 28)) (by simp))
  clear k1
  go_wp2_with (go_at_call 22; refine go_stop ?_)
  unfold Stop
  refine (c2.out _).mono ?_
  rintro e w2 ⟨rfl, k2⟩
  dsimp only
  replace HF := Lib.hid (HF.out.trans k2 (by simp))
  replace HB := Lib.hid (k2.keep HB.out (by simp))
  clear k2
  obtain ⟨t0, t1, t2, tf⟩ := cells3 HB.out
  go_wp2
  refine bodyPost_ret (v := .agg #[.int .i64 (n / 1099511627776), .int .i64 (n / 1048576 % 1048576), .int .i64 (n % 1048576)]) (by simp [results, Try.results18, go_sem, *]) rfl ⟨rfl, ?_⟩
  have q : w.heap.size ≤ w.heap.size := Nat.le_refl _
  exact ((HF.out.setCell (Or.inr q) _).setCell (Or.inr q) _).setCell (Or.inr q) _
theorem eq_hd (a b c : Int) (X : World) : (binOp .eql 28 (.agg #[.int .i64 a, .int .i64 b, .int .i64 c]) (.agg #[.int .i64 a, .int .i64 b, .int .i64 c])).run Try.prog X = .ok (.bool true) X := by
  simp [go_sem]
theorem wd_awake (w : World) : Calls Try.prog 9 #[] w fun e w' => e = .returned (.bool true) ∧ Fr [] w w' := by
  have HF : Hid (Fr [] w (w.alloc (.cells #[.int .i64 7, .int .i64 5, .int .i64 3] 28))) := Lib.hid ((Fr.refl [] w).alloc _)
  have HB := Lib.hid (new_block w (.cells #[.int .i64 7, .int .i64 5, .int .i64 3] 28))
  have c1 : CW 10 #[.int .i64 3, .int .i64 5] (.int .u64 23) := to_fr fun W => wd_pack 3 5 W
  have c2 : CW 12 #[.int .u64 23] (.int .i64 3) := to_fr fun W => wd_state 23 W (by decide)
  have c3 : CW 14 #[.int .u64 23] (.int .i64 5) := to_fr fun W => wd_info 23 W (by decide)
  have c4 : CW 16 #[.agg #[.int .i64 7, .int .i64 5, .int .i64 3]] (.int .u64 7696586637315) := ⟨fun W => wd_head 7 5 3 W⟩
  have c5 : CW 18 #[.int .u64 7696586637315] (.agg #[.int .i64 7, .int .i64 5, .int .i64 3]) := ⟨fun W => wd_open 7696586637315 W (by decide)⟩
  have c6 : CW 20 #[.agg #[.int .i64 7, .int .i64 5, .int .i64 3]] (.bool true) := ⟨fun W => wd_may 7 5 3 W⟩
  have E := eq_hd 7 5 3
  go_enter Try.func9, Try.ntmps9
  go_wp2_with fail
  obtain ⟨t0, t1, t2, _⟩ := cells3 HB.out
  generalize w.alloc (.cells #[.int .i64 7, .int .i64 5, .int .i64 3] 28) = w1 at *
  have A0 := fun n : After [] w1 => n.cell t0 (by simp)
  have A1 := fun n : After [] w1 => n.cell t1 (by simp)
  have A2 := fun n : After [] w1 => n.cell t2 (by simp)
  refine wp_region_after [] (by kernel_rfl) (by kernel_rfl) ?_
  repeat (go_big_quiet_step (first
    | (go_at_call 10; with_reducible exact After.quiet (c1.out _))
    | (go_at_call 12; with_reducible exact After.quiet (c2.out _))
    | (go_at_call 14; with_reducible exact After.quiet (c3.out _))
    | (go_at_call 16; with_reducible exact After.quiet (c4.out _))
    | (go_at_call 18; with_reducible exact After.quiet (c5.out _))
    | (go_at_call 20; with_reducible exact After.quiet (c6.out _))))
  refine wpQuiet_nil ?_
  rintro _ ⟨nq, rfl⟩
  go_wp2
  go_ret
  exact ⟨rfl, HF.out.trans nq.fr (by simp)⟩
end Go.Proofs.Ytbfgofalgjamaaa
