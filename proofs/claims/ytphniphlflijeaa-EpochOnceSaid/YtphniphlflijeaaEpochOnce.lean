/- What was retired once is free once: as much is free, and left, as was retired: for every list of deeds. No condition. -/
import Derived.Test.YtphniphlflijeaaEpochHist
namespace Go.Proofs.Ytphniphlflijeaa.lawEpochOnce
open Go.ChangeShapes Go.WideShapes Go.ChangeAt Go.RowKit Go.Deep
set_option linter.unusedVariables false
set_option linter.unusedSimpArgs false

theorem row_enter (A : PA) (t : Int) : (A.enter t).row = A.row := by
  unfold PA.enter
  repeat' split
  all_goals rfl
theorem row_exit (A : PA) (t : Int) : (A.exit t).row = A.row := by
  unfold PA.exit
  repeat' split
  all_goals rfl
theorem row_advance (A : PA) : A.advance.row = A.row := by unfold PA.advance; split <;> rfl
theorem freed_len (A : PA) : A.free.row.length + A.freed.length = A.row.length := by
  unfold PA.free PA.freed
  rw [List.length_map]
  generalize A.row = l
  induction l with
  | nil => rfl
  | cons x r ih =>
    by_cases h : x.2 + 2 ≤ A.ep
    · rw [List.filter_cons_of_neg (by simpa using h), List.filter_cons_of_pos (by simpa using h)]; simp only [List.length_cons] at ih ⊢; omega
    · rw [List.filter_cons_of_pos (by simpa using h), List.filter_cons_of_neg (by simpa using h)]; simp only [List.length_cons] at ih ⊢; omega

set_option maxRecDepth 100000 in
set_option maxHeartbeats 4000000 in
theorem walk (a0 : Option Addr) (len0 cap0 : Nat) (w : World) (w0 : EDeeds w a0 len0 cap0) :
    Calls Try.prog 6 #[.slice a0 len0 cap0] w fun e w' => e = .returned (.bool true) ∧ Below w.heap.size w w' := by
  have HD := Lib.hid w0
  have hm : len0 ≤ 9223372036854775807 := by have := w0.1; have := w0.2.1; unfold maxLen at this; omega
  clear w0
  go_enter Try.func6, Try.ntmps6
  go_wp2_with (first | (go_at_call 9; refine (epoch_awake _).mono ?_; rintro e w1 ⟨rfl, h1⟩; have HA := Lib.hid h1; clear h1) | (go_at_call 10; refine (own_new HA.out 4 (by decide) (by decide)).mono ?_; rintro e w3 ⟨p, S0, rfl, h3⟩; refine go_stop ?_))
  have H3 := Lib.hid h3
  clear h3
  unfold Stop
  go_wp2_with fail
  go_loopw [5, 6, 7] (fun vi vo i wr => ∃ (j : Nat) (S : List Nat) (A : PA) (inn out : Nat), vi = .int .i64 inn ∧ vo = .int .i64 out ∧ i = .int .i64 j ∧ j ≤ len0 ∧ j ≤ 80 ∧ Own w p S A wr ∧ OkA A j ∧ A.row.length + out = inn ∧ inn ≤ j) (fun _ _ i _ => 80 - (intOf i).toNat)
  case atStart => exact ⟨0, _, _, 0, 0, rfl, rfl, rfl, Nat.zero_le _, Nat.zero_le _, H3.out, OkA.new 4 (by decide), rfl, Nat.le_refl _⟩
  case round =>
    obtain ⟨j, S, A, inn, out, rfl, rfl, rfl, hj, hj80, hO, hA, hrow, hinn⟩ := hrel
    by_cases hgo : j < len0 ∧ j < 80
    · obtain ⟨hlt, hlt80⟩ := hgo
      have ht1 : decide (j < len0) = true := by simpa using hlt
      have ht2 : decide ((j : Int) < 80) = true := by simp; omega
      obtain ⟨b, off, rfl, hbw, _⟩ := HD.out.2.2 (by omega)
      have hd' := HD.out.keep hO.2.1
      obtain ⟨b', off', hbe, hbw', hcells⟩ := hd'.2.2 (by omega)
      simp only [Option.some.injEq, Addr.mk.injEq, and_true] at hbe
      obtain ⟨rfl, rfl⟩ := hbe
      obtain ⟨kind, t, x, c0, c1, c2⟩ := hcells j hlt
      clear hcells hd'
      by_cases hk1 : kind = 1
      · have HL : Hid ((A.enter t).row.length + out = inn ∧ OkA (A.enter t) ((j : Int) + 1)) := Lib.hid ⟨(by rw [row_enter]; omega), hA.enter t |>.mono (by omega)⟩
        have k1 : (kind == 1) = true := by simp; omega
        have hw : IntKind.i64.wrap ((inn : Int) - (out : Int)) = (((A.enter t).row.length : Nat) : Int) := by
          have := HL.out.1
          have hr := freed_len A
          rw [IntWalk.i64_in _ ⟨by omega, by omega⟩]; omega
        have HC := Lib.hid (own_enter hO hA t)
        clear hO hA hrow
        go_wp2_with (go_at_call 17; refine HC.out.mono ?_; rintro e w4 ⟨rfl, S4, h4⟩; refine go_stop ?_)
        have H4 := Lib.hid h4
        clear h4
        unfold Stop
        go_wp2_with (go_at_call 14; refine (own_left H4.out HL.out.2 (by omega)).mono ?_; rintro e w5 ⟨rfl, hf5⟩; have HF5 := Lib.hid hf5; clear hf5)
        go_roundw
        case rel => exact ⟨j + 1, _, _, inn, out, by go_num, by go_num, by go_num, by omega, by omega, H4.out.keep HF5.out, HL.out.2, HL.out.1, by omega⟩
        case measure => simp [intOf]; omega
      by_cases hk2 : kind = 2
      · have HL : Hid ((A.exit t).row.length + out = inn ∧ OkA (A.exit t) ((j : Int) + 1)) := Lib.hid ⟨(by rw [row_exit]; omega), hA.exit t |>.mono (by omega)⟩
        have k1 : (kind == 1) = false := by simp; omega
        have k2 : (kind == 2) = true := by simp; omega
        have hw : IntKind.i64.wrap ((inn : Int) - (out : Int)) = (((A.exit t).row.length : Nat) : Int) := by
          have := HL.out.1
          have hr := freed_len A
          rw [IntWalk.i64_in _ ⟨by omega, by omega⟩]; omega
        have HC := Lib.hid (own_exit hO hA t)
        clear hO hA hrow
        go_wp2_with (go_at_call 19; refine HC.out.mono ?_; rintro e w4 ⟨rfl, S4, h4⟩; refine go_stop ?_)
        have H4 := Lib.hid h4
        clear h4
        unfold Stop
        go_wp2_with (go_at_call 14; refine (own_left H4.out HL.out.2 (by omega)).mono ?_; rintro e w5 ⟨rfl, hf5⟩; have HF5 := Lib.hid hf5; clear hf5)
        go_roundw
        case rel => exact ⟨j + 1, _, _, inn, out, by go_num, by go_num, by go_num, by omega, by omega, H4.out.keep HF5.out, HL.out.2, HL.out.1, by omega⟩
        case measure => simp [intOf]; omega
      by_cases hk3 : kind = 3
      · have HL : Hid ((A.retire x).row.length + out = inn + 1 ∧ OkA (A.retire x) ((j : Int) + 1)) := Lib.hid ⟨(by simp [PA.retire]; omega), hA.retire x⟩
        have k1 : (kind == 1) = false := by simp; omega
        have k2 : (kind == 2) = false := by simp; omega
        have k3 : (kind == 3) = true := by simp; omega
        have hw : IntKind.i64.wrap ((inn : Int) + 1 - (out : Int)) = (((A.retire x).row.length : Nat) : Int) := by
          have := HL.out.1
          have hr := freed_len A
          rw [IntWalk.i64_in _ ⟨by omega, by omega⟩]; omega
        have hwi : IntKind.i64.wrap ((inn : Int) + 1) = (inn : Int) + 1 := IntWalk.i64_in _ ⟨by omega, by omega⟩
        have HC := Lib.hid (own_retire hO hA (by omega) x)
        clear hO hA hrow
        go_wp2_with (go_at_call 18; refine HC.out.mono ?_; rintro e w4 ⟨rfl, S4, h4⟩; refine go_stop ?_)
        have H4 := Lib.hid h4
        clear h4
        unfold Stop
        go_wp2_with (go_at_call 14; refine (own_left H4.out HL.out.2 (by omega)).mono ?_; rintro e w5 ⟨rfl, hf5⟩; have HF5 := Lib.hid hf5; clear hf5)
        go_roundw
        case rel => exact ⟨j + 1, _, _, inn + 1, out, by go_num, by go_num, by go_num, by omega, by omega, H4.out.keep HF5.out, HL.out.2, HL.out.1, by omega⟩
        case measure => simp [intOf]; omega
      by_cases hk4 : kind = 4
      · have HL : Hid ((A.advance).row.length + out = inn ∧ OkA (A.advance) ((j : Int) + 1)) := Lib.hid ⟨(by rw [row_advance]; omega), hA.advance⟩
        have k1 : (kind == 1) = false := by simp; omega
        have k2 : (kind == 2) = false := by simp; omega
        have k3 : (kind == 3) = false := by simp; omega
        have k4 : (kind == 4) = true := by simp; omega
        have hw : IntKind.i64.wrap ((inn : Int) - (out : Int)) = (((A.advance).row.length : Nat) : Int) := by
          have := HL.out.1
          have hr := freed_len A
          rw [IntWalk.i64_in _ ⟨by omega, by omega⟩]; omega
        have HC := Lib.hid (own_advance hO hA (by omega))
        clear hO hA hrow
        go_wp2_with (go_at_call 20; refine HC.out.mono ?_; rintro e w4 ⟨rfl, S4, h4⟩; refine go_stop ?_)
        have H4 := Lib.hid h4
        clear h4
        unfold Stop
        go_wp2_with (go_at_call 14; refine (own_left H4.out HL.out.2 (by omega)).mono ?_; rintro e w5 ⟨rfl, hf5⟩; have HF5 := Lib.hid hf5; clear hf5)
        go_roundw
        case rel => exact ⟨j + 1, _, _, inn, out, by go_num, by go_num, by go_num, by omega, by omega, H4.out.keep HF5.out, HL.out.2, HL.out.1, by omega⟩
        case measure => simp [intOf]; omega
      · have HL : Hid ((A.free).row.length + (out + A.freed.length) = inn ∧ OkA (A.free) ((j : Int) + 1)) := Lib.hid ⟨(by have := freed_len A; omega), hA.free.mono (by omega)⟩
        have k1 : (kind == 1) = false := by simp; omega
        have k2 : (kind == 2) = false := by simp; omega
        have k3 : (kind == 3) = false := by simp; omega
        have k4 : (kind == 4) = false := by simp; omega
        have hw : IntKind.i64.wrap ((inn : Int) - ((out : Int) + (A.freed.length : Int))) = (((A.free).row.length : Nat) : Int) := by
          have := HL.out.1
          have hr := freed_len A
          rw [IntWalk.i64_in _ ⟨by omega, by omega⟩]; omega
        have hwo : IntKind.i64.wrap ((out : Int) + (A.freed.length : Int)) = (out : Int) + (A.freed.length : Int) := by have := freed_len A; exact IntWalk.i64_in _ ⟨by omega, by omega⟩
        have HC := Lib.hid (own_free hO hA (by omega))
        clear hO hA hrow
        go_wp2_with (go_at_call 16; refine HC.out.mono ?_; rintro e w4 ⟨s4, c4, rfl, _, _, h4⟩; refine go_stop ?_)
        have H4 := Lib.hid h4
        clear h4
        unfold Stop
        go_wp2_with (go_at_call 14; refine (own_left H4.out HL.out.2 (by omega)).mono ?_; rintro e w5 ⟨rfl, hf5⟩; have HF5 := Lib.hid hf5; clear hf5)
        go_roundw
        case rel => exact ⟨j + 1, _, _, inn, (out + A.freed.length), by go_num, by go_num, by go_num, by omega, by omega, H4.out.keep HF5.out, HL.out.2, HL.out.1, by omega⟩
        case measure => simp [intOf]; omega
    · have HF := Lib.hid hO.2.1
      clear hO hA hrow
      by_cases hlt : j < len0
      all_goals first
        | have ht1 : decide (j < len0) = true := by simpa using hlt
          have ht2 : decide ((j : Int) < 80) = false := by simp; omega
        | have ht1 : decide (j < len0) = false := by simpa using hlt
      all_goals
        go_wp2
        go_ret
        exact ⟨rfl, HF.out.below (Nat.le_refl _) (by simp)⟩

set_option maxRecDepth 100000 in
theorem contract (H : Type) (enc : TypeId × Value → H) (W : World) (base : Nat) (args : Array Value) (ds gs : List (DataW H)) (before : List MemPlace)
    (hval0 : ∀ (j : Nat) t v, Try.f6.params[j]? = some t → args[j]? = some v → Value.okWide Try.prog W .any base t v)
    (hW : DataW.Whole enc Try.prog Try.f6.params.toList Rows.epochOnceSpec.vars false W args.toList ds gs before) :
    Calls Try.prog 6 args W fun e W' => ∃ v, e = .returned v ∧ Rows.epochOnceSpec.post enc Try.prog Try.f6 false true false false W args v W' := by
  have hval : ∀ (j : Nat) t v, Try.f6.params[j]? = some t → args[j]? = some v → Value.okWide Try.prog W .any base t v := hval0
  have hW' := hW
  obtain ⟨p, q, hA0, hV, rfl, hfz, hnd⟩ := hW
  have hA : DataW.TrodAll enc Try.prog W 0 (fun _ => true) true Try.f6.params.toList args.toList ds p := hA0
  rw [Try.params6] at hA hval
  obtain ⟨v0, vs0, d0, ds0, p0, q0, hargs, rfl, rfl, h0, r0⟩ := trodAll_cons hA
  obtain ⟨rfl, rfl, rfl⟩ := trodAll_nil r0
  obtain rfl : args = #[v0] := by cases args; simp_all
  obtain ⟨rfl, rfl⟩ := trodVars_none hV
  have k0 := h0
  have lt0 : ∀ x ∈ p0, x.block < W.heap.size := by obtain ⟨m, hm⟩ := k0; exact DataW.trod_lt m _ _ _ hm
  obtain ⟨a0, len0, cap0, rfl, w0⟩ := open_edeeds (hval 0 22 v0 rfl rfl) h0
  clear hA0 hval0 hval
  refine (walk a0 len0 cap0 W w0).mono fun e W' ⟨he, bel⟩ => ?_
  subst he
  exact ⟨_, rfl, _, _, _, [], _, [], hW', trodAll_mk1 (shut_bool Try.underlying4 _), (trodAll_cons_mk (Below.trod laid_prog (by kernel_rfl) (of_decide_eq_true (by kernel_rfl)) k0 bel lt0) trodAll_mk0), rfl, bel.frame _, fun h => by cases h⟩

set_option maxRecDepth 100000 in
theorem lifted (os : Os) (started : os.Started) (H : Type) (enc : TypeId × Value → H) :
    ReturnsInHanded {} Try.checked os 6 .any (Rows.epochOnceSpec.pre6 enc Try.prog Try.f6 Rows.epochOnceRow.domain false) (Rows.epochOnceSpec.post enc Try.prog Try.f6 false true false false) := by
  refine returnsInHanded_of_change (C := Try.checked) own_prog started (by kernel_rfl) Try.func6
    (ChangeSpec.witness6 (enc := enc) (C := Try.checked) false ⟨#[], #[.slice none 0 0], []⟩ 8 (by kernel_rfl) (by kernel_rfl) (by kernel_rfl) (by kernel_rfl)) ?_
  intro W base args ds gs before hval hW _ _
  exact contract H enc W base args ds gs before hval hW

theorem proved : Rows.EpochOnceSaid :=
  OpenClaim.holds_of_wide 6 Try.f6 rfl rfl rfl rfl rfl rfl rfl ⟨rfl, rfl, rfl, rfl, rfl⟩ rfl rfl rfl rfl rfl (by kernel_rfl) Try.func6 (by kernel_rfl)
    (of_decide_eq_true (by kernel_rfl)) (by unfold Func.isWrapper; first | (rw [if_pos (by decide +kernel)]; kernel_rfl) | (rw [if_neg (by decide +kernel)]; exact ⟨rfl, rfl⟩))
    (fun os started H enc _ => lifted os started H enc)

end Go.Proofs.Ytphniphlflijeaa.lawEpochOnce
