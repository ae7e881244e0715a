/- A pool that is nil has no threads, and nothing; there is no thread beyond the last one, nor is one inside twice: for every int and every word. No condition. -/
import Derived.Test.YtphniphlflijeaaEpochHist
namespace Go.Proofs.Ytphniphlflijeaa.lawEpochNobody
open Go.ChangeShapes Go.WideShapes Go.ChangeAt Go.RowKit Go.Deep
set_option linter.unusedVariables false
set_option linter.unusedSimpArgs false

set_option maxRecDepth 100000 in
set_option maxHeartbeats 4000000 in
theorem walk (t x : Int) (w : World) (wt : (Lit.int .i64 t).wf = true) :
    Calls Try.prog 8 #[.int .i64 t, .int .u64 x] w fun e w' => e = .returned (.bool true) ∧ Below w.heap.size w w' := by
  clear wt
  by_cases h0 : 0 ≤ t ∧ t < 4
  · have HV : Hid ((PA.new 4).enterE t = 0 ∧ ((PA.new 4).enter t).enterE t = 8 ∧ (((PA.new 4).enter t).enter t).exitE t = 0 ∧ ((((PA.new 4).enter t).enter t).exit t).exitE t = 4) := Lib.hid (by
      have : t = 0 ∨ t = 1 ∨ t = 2 ∨ t = 3 := by omega
      rcases this with rfl | rfl | rfl | rfl <;> exact ⟨by rfl, by rfl, by rfl, by rfl⟩)
    have t1 : decide (0 ≤ t) = true := by simpa using h0.1
    have t2 : decide (t < 4) = true := by simpa using h0.2
    clear h0
    go_enter Try.func8, Try.ntmps8
    go_wp2_with (first | (go_at_call 9; refine (epoch_awake _).mono ?_; rintro e w1 ⟨rfl, h1⟩; have HA := Lib.hid h1; clear h1) | (go_at_call 18; refine (epoch_retire_nil _ _).mono ?_; rintro e w2 ⟨rfl, rfl⟩) | (go_at_call 17; refine (epoch_enter_nil _ _).mono ?_; rintro e w2 ⟨rfl, rfl⟩) | (go_at_call 19; refine (epoch_exit_nil _ _).mono ?_; rintro e w2 ⟨rfl, rfl⟩) | (go_at_call 20; refine (epoch_advance_nil _).mono ?_; rintro e w2 ⟨rfl, rfl⟩) | (go_at_call 16; refine (epoch_free_nil _).mono ?_; rintro e w2 ⟨rfl, rfl⟩) | (go_at_call 13; refine (epoch_epoch_nil _).mono ?_; rintro e w2 ⟨rfl, rfl⟩) | (go_at_call 14; refine (epoch_left_nil _).mono ?_; rintro e w2 ⟨rfl, rfl⟩) | (go_at_call 10; refine (own_new HA.out 4 (by decide) (by decide)).mono ?_; rintro e w3 ⟨p, S0, rfl, h3⟩; refine go_stop ?_))
    unfold Stop
    go_wp2_with (go_at_call 17; refine (own_enter h3 (OkA.new 4 (by decide)) t).mono ?_; rintro e w4 ⟨rfl, S1, h4⟩; rw [HV.out.1]; refine go_stop ?_)
    clear h3
    unfold Stop
    go_wp2_with (go_at_call 17; refine (own_enter h4 ((OkA.new 4 (by decide)).enter t) t).mono ?_; rintro e w5 ⟨rfl, S2, h5⟩; rw [HV.out.2.1]; refine go_stop ?_)
    clear h4
    unfold Stop
    go_wp2_with (go_at_call 19; refine (own_exit h5 (((OkA.new 4 (by decide)).enter t).enter t) t).mono ?_; rintro e w6 ⟨rfl, S3, h6⟩; rw [HV.out.2.2.1]; refine go_stop ?_)
    clear h5
    unfold Stop
    go_wp2_with (go_at_call 19; refine (own_exit h6 ((((OkA.new 4 (by decide)).enter t).enter t).exit t) t).mono ?_; rintro e w7 ⟨rfl, S4, h7⟩; rw [HV.out.2.2.2]; refine go_stop ?_)
    have HF := Lib.hid h7.2.1
    clear h6 h7
    unfold Stop
    go_wp2
    go_ret
    exact ⟨rfl, HF.out.below (Nat.le_refl _) (by simp)⟩
  · have HV : Hid ((PA.new 4).enterE t = 1 ∧ ((PA.new 4).enter t).enterE t = 1 ∧ (((PA.new 4).enter t).enter t).exitE t = 1 ∧ ((((PA.new 4).enter t).enter t).exit t).exitE t = 1) := Lib.hid (by
      have hh : (PA.new 4).has t = false := by simp [PA.has, PA.new]; omega
      have e1 : (PA.new 4).enter t = PA.new 4 := by rw [PA.enter, hh]; rfl
      have e2 : (PA.new 4).exit t = PA.new 4 := by rw [PA.exit, hh]; rfl
      rw [e1, e1, e2, PA.enterE, PA.exitE, hh]
      exact ⟨rfl, rfl, rfl, rfl⟩)
    by_cases h1 : 0 ≤ t
    all_goals first
      | have t1 : decide (0 ≤ t) = true := by simpa using h1
        have t2 : decide (t < 4) = false := by simp; omega
        clear h0 h1
      | have t1 : decide (0 ≤ t) = false := by simpa using h1
        clear h0 h1
    all_goals
      go_enter Try.func8, Try.ntmps8
      go_wp2_with (first | (go_at_call 9; refine (epoch_awake _).mono ?_; rintro e w1 ⟨rfl, h1⟩; have HA := Lib.hid h1; clear h1) | (go_at_call 18; refine (epoch_retire_nil _ _).mono ?_; rintro e w2 ⟨rfl, rfl⟩) | (go_at_call 17; refine (epoch_enter_nil _ _).mono ?_; rintro e w2 ⟨rfl, rfl⟩) | (go_at_call 19; refine (epoch_exit_nil _ _).mono ?_; rintro e w2 ⟨rfl, rfl⟩) | (go_at_call 20; refine (epoch_advance_nil _).mono ?_; rintro e w2 ⟨rfl, rfl⟩) | (go_at_call 16; refine (epoch_free_nil _).mono ?_; rintro e w2 ⟨rfl, rfl⟩) | (go_at_call 13; refine (epoch_epoch_nil _).mono ?_; rintro e w2 ⟨rfl, rfl⟩) | (go_at_call 14; refine (epoch_left_nil _).mono ?_; rintro e w2 ⟨rfl, rfl⟩) | (go_at_call 10; refine (own_new HA.out 4 (by decide) (by decide)).mono ?_; rintro e w3 ⟨p, S0, rfl, h3⟩; refine go_stop ?_))
      unfold Stop
      go_wp2_with (go_at_call 17; refine (own_enter h3 (OkA.new 4 (by decide)) t).mono ?_; rintro e w4 ⟨rfl, S1, h4⟩; rw [HV.out.1]; refine go_stop ?_)
      clear h3
      unfold Stop
      go_wp2_with (go_at_call 17; refine (own_enter h4 ((OkA.new 4 (by decide)).enter t) t).mono ?_; rintro e w5 ⟨rfl, S2, h5⟩; rw [HV.out.2.1]; refine go_stop ?_)
      clear h4
      unfold Stop
      go_wp2_with (go_at_call 19; refine (own_exit h5 (((OkA.new 4 (by decide)).enter t).enter t) t).mono ?_; rintro e w6 ⟨rfl, S3, h6⟩; rw [HV.out.2.2.1]; refine go_stop ?_)
      clear h5
      unfold Stop
      go_wp2_with (go_at_call 19; refine (own_exit h6 ((((OkA.new 4 (by decide)).enter t).enter t).exit t) t).mono ?_; rintro e w7 ⟨rfl, S4, h7⟩; rw [HV.out.2.2.2]; refine go_stop ?_)
      have HF := Lib.hid h7.2.1
      clear h6 h7
      unfold Stop
      go_wp2
      go_ret
      exact ⟨rfl, HF.out.below (Nat.le_refl _) (by simp)⟩

set_option maxRecDepth 100000 in
theorem contract (H : Type) (enc : TypeId × Value → H) (W : World) (base : Nat) (args : Array Value) (ds gs : List (DataW H)) (before : List MemPlace)
    (hval0 : ∀ (j : Nat) t v, Try.f8.params[j]? = some t → args[j]? = some v → Value.okWide Try.prog W .any base t v)
    (hW : DataW.Whole enc Try.prog Try.f8.params.toList Rows.epochNobodySpec.vars false W args.toList ds gs before) :
    Calls Try.prog 8 args W fun e W' => ∃ v, e = .returned v ∧ Rows.epochNobodySpec.post enc Try.prog Try.f8 false true false false W args v W' := by
  have hval : ∀ (j : Nat) t v, Try.f8.params[j]? = some t → args[j]? = some v → Value.okWide Try.prog W .any base t v := hval0
  have hW' := hW
  obtain ⟨p, q, hA0, hV, rfl, hfz, hnd⟩ := hW
  have hA : DataW.TrodAll enc Try.prog W 0 (fun _ => true) true Try.f8.params.toList args.toList ds p := hA0
  rw [Try.params8] at hA hval
  obtain ⟨v0, vs0, d0, ds0, p0, q0, hargs, rfl, rfl, h0, r0⟩ := trodAll_cons hA
  obtain ⟨v1, vs1, d1, ds1, p1, q1, rfl, rfl, rfl, h1, r1⟩ := trodAll_cons r0
  obtain ⟨rfl, rfl, rfl⟩ := trodAll_nil r1
  obtain rfl : args = #[v0, v1] := by cases args; simp_all
  obtain ⟨rfl, rfl⟩ := trodVars_none hV
  have k0 := h0
  have lt0 : ∀ x ∈ p0, x.block < W.heap.size := by obtain ⟨m, hm⟩ := k0; exact DataW.trod_lt m _ _ _ hm
  have k1 := h1
  have lt1 : ∀ x ∈ p1, x.block < W.heap.size := by obtain ⟨m, hm⟩ := k1; exact DataW.trod_lt m _ _ _ hm
  obtain ⟨t, rfl, _, _, wt⟩ := open_int Try.underlying3 (hval 0 3 v0 rfl rfl) h0
  obtain ⟨x, rfl, _, _, wx⟩ := open_int Try.underlying33 (hval 1 33 v1 rfl rfl) h1
  clear hA0 hval0 hval
  refine (walk t x W wt).mono fun e W' ⟨he, bel⟩ => ?_
  subst he
  exact ⟨_, rfl, _, _, _, [], _, [], hW', trodAll_mk1 (shut_bool Try.underlying4 _), (trodAll_cons_mk (Below.trod laid_prog (by kernel_rfl) (of_decide_eq_true (by kernel_rfl)) k0 bel lt0) (trodAll_cons_mk (Below.trod laid_prog (by kernel_rfl) (of_decide_eq_true (by kernel_rfl)) k1 bel lt1) trodAll_mk0)), rfl, bel.frame _, fun h => by cases h⟩

set_option maxRecDepth 100000 in
theorem lifted (os : Os) (started : os.Started) (H : Type) (enc : TypeId × Value → H) :
    ReturnsInHanded {} Try.checked os 8 .any (Rows.epochNobodySpec.pre6 enc Try.prog Try.f8 Rows.epochNobodyRow.domain false) (Rows.epochNobodySpec.post enc Try.prog Try.f8 false true false false) := by
  refine returnsInHanded_of_change (C := Try.checked) own_prog started (by kernel_rfl) Try.func8
    (ChangeSpec.witness6 (enc := enc) (C := Try.checked) false ⟨#[], #[.int .i64 0, .int .u64 0], []⟩ 8 (by kernel_rfl) (by kernel_rfl) (by kernel_rfl) (by kernel_rfl)) ?_
  intro W base args ds gs before hval hW _ _
  exact contract H enc W base args ds gs before hval hW

theorem proved : Rows.EpochNobodySaid :=
  OpenClaim.holds_of_wide 8 Try.f8 rfl rfl rfl rfl rfl rfl rfl ⟨rfl, rfl, rfl, rfl, rfl⟩ rfl rfl rfl rfl rfl (by kernel_rfl) Try.func8 (by kernel_rfl)
    (of_decide_eq_true (by kernel_rfl)) (by unfold Func.isWrapper; first | (rw [if_pos (by decide +kernel)]; kernel_rfl) | (rw [if_neg (by decide +kernel)]; exact ⟨rfl, rfl⟩))
    (fun os started H enc _ => lifted os started H enc)

end Go.Proofs.Ytphniphlflijeaa.lawEpochNobody
