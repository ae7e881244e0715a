/- The horizon never falls, and is never above the last revision; compacting changes no revision that isn't below it: for every list of deeds and every revision. No condition. -/
import Derived.Test.YtpahencocbahgaaHistAwake
import Derived.Test.YtpahencocbahgaaHistLaw
namespace Go.Proofs.Ytpahencocbahgaa.lawHistHorizon
open Go.ChangeShapes Go.WideShapes Go.ChangeAt Go.RowKit Go.Deep Go.ChangeMaps
set_option linter.unusedVariables false
set_option linter.unusedSimpArgs false

set_option maxRecDepth 100000 in
set_option maxHeartbeats 4000000 in
theorem walk (lv : Value) (l : List Dd) (rev : Int) (w : World) (hl : DdIn w lv l) :
    Calls Try.prog 5 #[lv, .int .i64 rev] w fun e w' => e = .returned (.bool true) ∧ Below w.heap.size w w' := by
  have HL := Lib.hid hl
  obtain ⟨s1, c1, rfl, _, _⟩ := hl.form
  clear hl
  go_enter Try.func5, Try.ntmps5
  go_wp2_with (first
    | (go_at_call 7; refine (hist_awake _).mono ?_; rintro e w1 ⟨rfl, h1⟩; have HF := Lib.hid h1; replace HL := Lib.hid (HL.out.keep0 h1); clear h1)
    | (go_at_call 8; refine (hfew_any _ l _ HL.out).mono ?_; rintro e wn ⟨b, rfl, hb, rfl⟩; refine go_stop ?_))
  unfold Stop
  cases b
  · clear hb
    go_wp2_with fail
    go_ret
    exact ⟨rfl, HF.out.below (Nat.le_refl _) (by simp)⟩
  · obtain ⟨h30, h8⟩ := hb.1 rfl
    have H8 := Lib.hid h8
    clear hb h8
    go_wp2_with (go_at_call 9; refine (hran_any _ l _ HL.out h30 H8.out).mono ?_; rintro e w2 ⟨p, S, rfl, h1, h2, h3⟩; refine go_stop ?_)
    unfold Stop
    have hok := runH_ok l H8.out l.length (Nat.le_refl _)
    rw [List.take_length] at hok
    obtain ⟨H, hH⟩ : ∃ H, H = runH l := ⟨_, rfl⟩
    rw [← hH] at hok h1
    replace hok := hok.mono h30
    have OK := Lib.hid hok
    have hhl := hok.hor
    have hrl := hok.rev
    have AT := Lib.hid (at_ok (H := H) (n := H.rows.length) hok.hor (Nat.le_refl _))
    have e1 := AT.out.1
    have HS := Lib.hid h1
    have HG : Hid (∀ k ∈ S, w.heap.size ≤ k) := Lib.hid (fun k hk => Nat.le_trans HF.out.size (h3 k hk))
    have HF2 := Lib.hid (HF.out.trans h2 (by simp))
    clear h1 h2 h3 hok hH HF HL
    obtain ⟨H2, hH2⟩ : ∃ H2, H2 = H.com rev := ⟨_, rfl⟩
    have OK2 : Hid (HOk H2 30) := Lib.hid (by rw [hH2]; exact OK.out.com rev)
    have HC2 := Lib.hid hH2
    have hr2 : H2.rows = H.rows := by rw [hH2]; unfold HA.com; split <;> rfl
    have hl2 : H2.rows.length = H.rows.length := by rw [hr2]
    have AT2 : Hid (H2.atE H.rows.length = 0 ∧ H2.atL H.rows.length ⟨#[]⟩ ⟨#[]⟩ = mapN H.rows H.rows.length) := Lib.hid (by have := at_ok (H := H2) (n := H.rows.length) (by have := OK2.out.hor; omega) (by omega); rw [hr2] at this; exact this)
    have e2 := AT2.out.1
    have hcases : (rev < 0 ∧ H.comE rev = 1 ∧ (H2.hor : Int) = H.hor) ∨ ((H.rows.length : Int) < rev ∧ H.comE rev = 6 ∧ (H2.hor : Int) = H.hor) ∨ (0 ≤ rev ∧ rev ≤ H.rows.length ∧ (H.hor : Int) < rev ∧ H.comE rev = 0 ∧ (H2.hor : Int) = rev) ∨ (0 ≤ rev ∧ rev ≤ H.rows.length ∧ rev ≤ H.hor ∧ H.comE rev = 0 ∧ (H2.hor : Int) = H.hor) := by
      rw [hH2]
      unfold HA.com
      by_cases c1 : rev < 0
      · left
        have : H.comE rev = 1 := by unfold HA.comE; rw [if_pos c1]
        rw [this]; simp [c1]
      · right
        by_cases c2 : (H.rows.length : Int) < rev
        · left
          have : H.comE rev = 6 := by unfold HA.comE; rw [if_neg c1, if_pos c2]
          rw [this]; simp [c2]
        · right
          have : H.comE rev = 0 := by unfold HA.comE; rw [if_neg c1, if_neg c2]
          rw [this, if_pos rfl]
          by_cases c3 : (H.hor : Int) < rev
          · left
            refine ⟨by omega, by omega, c3, rfl, ?_⟩
            show ((max H.hor rev.toNat : Nat) : Int) = rev
            omega
          · right
            refine ⟨by omega, by omega, by omega, rfl, ?_⟩
            show ((max H.hor rev.toNat : Nat) : Int) = H.hor
            omega
    clear hH2 hr2
    have hl2i : (H2.rows.length : Int) = (H.rows.length : Int) := by omega
    clear hl2
    rcases hcases with ⟨c1, ce, ch⟩ | ⟨c1, ce, ch⟩ | ⟨c1, c2, c3, ce, ch⟩ | ⟨c1, c2, c3, ce, ch⟩
    all_goals first
      | (have t1 : decide (0 ≤ rev) = true := by simp; omega
         have t2 : decide (rev ≤ (H.rows.length : Int)) = true := by simp; omega)
      | (have t1 : decide (0 ≤ rev) = true := by simp; omega
         have t2 : decide (rev ≤ (H.rows.length : Int)) = false := by simp; omega)
      | (have t1 : decide (0 ≤ rev) = false := by simp; omega)
    case' inr.inr.inl => have t4 : max (H.hor : Int) rev = rev := by omega
    case' inr.inr.inr => have t4 : max (H.hor : Int) rev = H.hor := by omega
    all_goals
      have t3 : decide ((H.hor : Int) ≤ (H.rows.length : Int)) = true := by simp; omega
      go_wp2_with (first
        | (go_at_call 13; refine (hist_hor HS.out).mono ?_; rintro e wn ⟨rfl, rfl⟩)
        | (go_at_call 10; refine (hist_rev HS.out).mono ?_; rintro e wn ⟨rfl, rfl⟩)
        | (go_at_call 11; first
            | (refine (hist_at (H := H) (n := 30) _ _ _ HS.out OK.out (by decide)).mono ?_; rintro e w3 ⟨v3, rfl, h1, h2, h3⟩; have WAS := Lib.hid h1; obtain ⟨s3, c3', rfl, _, _⟩ := h1.form; replace HS := Lib.hid (HS.out.keep h3 (by simp)); replace HF2 := Lib.hid (HF2.out.trans h3 (by simp)); clear h1 h2 h3)
            | (refine (hist_at (H := H2) (n := 30) _ _ _ HS.out OK2.out (by decide)).mono ?_; rintro e w5 ⟨v5, rfl, h1, h2, h3⟩; have NOW := Lib.hid h1.lin; replace WAS := Lib.hid (WAS.out.keep0 h3); obtain ⟨s5, c5', rfl, _, _⟩ := h1.form; replace HS := Lib.hid (HS.out.keep h3 (by simp)); replace HF2 := Lib.hid (HF2.out.trans h3 (by simp)); clear h1 h2 h3))
        | (go_at_call 17; refine (hist_compact (n := 30) rev HS.out OK.out (by decide)).mono ?_; rintro e w4 ⟨S4, rfl, h1, h2, h3⟩; rw [← HC2.out] at h1; replace HS := Lib.hid h1; replace WAS := Lib.hid (WAS.out.step h2 h3); replace HF2 := Lib.hid (HF2.out.trans h2 (fun k hk => Or.inr (HG.out k hk))); clear h1 h2 h3)
        | (go_at_call 14; refine (rkvs_any _ _ _ _ _ WAS.out.lin NOW.out).mono ?_; rintro e w6 ⟨rfl, h2⟩; rw [AT.out.2, AT2.out.2, (sameB_eq kvB_eq).2 rfl]; replace HF2 := Lib.hid (HF2.out.trans h2 (by simp)); replace HS := Lib.hid (HS.out.keep h2 (by simp)); clear h2))
    all_goals go_ret
    all_goals exact ⟨rfl, HF2.out.below (Nat.le_refl _) (by simp)⟩

set_option maxRecDepth 100000 in
theorem contract (H : Type) (enc : TypeId × Value → H) (W : World) (base : Nat) (args : Array Value) (ds gs : List (DataW H)) (before : List MemPlace)
    (hval0 : ∀ (j : Nat) t v, Try.f5.params[j]? = some t → args[j]? = some v → Value.okWide Try.prog W .any base t v)
    (hW : DataW.Whole enc Try.prog Try.f5.params.toList Rows.histHorizonSpec.vars false W args.toList ds gs before) :
    Calls Try.prog 5 args W fun e W' => ∃ v, e = .returned v ∧ Rows.histHorizonSpec.post enc Try.prog Try.f5 false true false false W args v W' := by
  have hval : ∀ (j : Nat) t v, Try.f5.params[j]? = some t → args[j]? = some v → Value.okWide Try.prog W .any base t v := hval0
  have hW' := hW
  obtain ⟨p, q, hA0, hV, rfl, hfz, hnd⟩ := hW
  have hA : DataW.TrodAll enc Try.prog W 0 (fun _ => true) true Try.f5.params.toList args.toList ds p := hA0
  rw [Try.params5] at hA hval
  obtain ⟨v0, vs0, d0, ds0, p0, q0, hargs, rfl, rfl, h0, r0⟩ := trodAll_cons hA
  obtain ⟨v1, vs1, d1, ds1, p1, q1, rfl, rfl, rfl, h1, r1⟩ := trodAll_cons r0
  obtain ⟨rfl, rfl, rfl⟩ := trodAll_nil r1
  obtain rfl : args = #[v0, v1] := by cases args; simp_all
  obtain ⟨rfl, rfl⟩ := trodVars_none hV
  have k0 := h0
  have lt0 : ∀ x ∈ p0, x.block < W.heap.size := by obtain ⟨m, hm⟩ := k0; exact DataW.trod_lt m _ _ _ hm
  have k1 := h1
  have lt1 : ∀ x ∈ p1, x.block < W.heap.size := by obtain ⟨m, hm⟩ := k1; exact DataW.trod_lt m _ _ _ hm
  obtain ⟨l, hl⟩ := open_deeds (hval 0 22 v0 rfl rfl) h0
  obtain ⟨rev, rfl, _, _, wrev⟩ := open_int Try.underlying3 (hval 1 3 v1 rfl rfl) h1
  clear hA0 hval0 hval
  refine (walk v0 l rev W hl).mono fun e W' ⟨he, bel⟩ => ?_
  subst he
  exact ⟨_, rfl, _, _, _, [], _, [], hW', trodAll_mk1 (shut_bool Try.underlying4 _), (trodAll_cons_mk (Below.trod laid_prog (by kernel_rfl) (of_decide_eq_true (by kernel_rfl)) k0 bel lt0) (trodAll_cons_mk (Below.trod laid_prog (by kernel_rfl) (of_decide_eq_true (by kernel_rfl)) k1 bel lt1) trodAll_mk0)), rfl, bel.frame _, fun h => by cases h⟩

set_option maxRecDepth 100000 in
theorem lifted (os : Os) (started : os.Started) (H : Type) (enc : TypeId × Value → H) :
    ReturnsInHanded {} Try.checked os 5 .any (Rows.histHorizonSpec.pre6 enc Try.prog Try.f5 Rows.histHorizonRow.domain false) (Rows.histHorizonSpec.post enc Try.prog Try.f5 false true false false) := by
  refine returnsInHanded_of_change (C := Try.checked) own_prog started (by kernel_rfl) Try.func5
    (ChangeSpec.witness6 (enc := enc) (C := Try.checked) false ⟨#[], #[.slice none 0 0, .int .i64 0], []⟩ 8 (by kernel_rfl) (by kernel_rfl) (by kernel_rfl) (by kernel_rfl)) ?_
  intro W base args ds gs before hval hW _ _
  exact contract H enc W base args ds gs before hval hW

theorem proved : Rows.HistHorizonSaid :=
  OpenClaim.holds_of_wide 5 Try.f5 rfl rfl rfl rfl rfl rfl rfl ⟨rfl, rfl, rfl, rfl, rfl⟩ rfl rfl rfl rfl rfl (by kernel_rfl) Try.func5 (by kernel_rfl)
    (of_decide_eq_true (by kernel_rfl)) (by unfold Func.isWrapper; first | (rw [if_pos (by decide +kernel)]; kernel_rfl) | (rw [if_neg (by decide +kernel)]; exact ⟨rfl, rfl⟩))
    (fun os started H enc _ => lifted os started H enc)

end Go.Proofs.Ytpahencocbahgaa.lawHistHorizon
