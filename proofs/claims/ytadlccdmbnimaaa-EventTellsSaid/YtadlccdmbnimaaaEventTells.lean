/- Of any events those of a range, each key's last one, and rows of one revision, as the document says: for every list and every range. No condition. -/
import Derived.Test.YtadlccdmbnimaaaEvLaw2
import Derived.Test.YtadlccdmbnimaaaEvCmp
import Derived.Test.YtadlccdmbnimaaaEvLast
import Derived.Test.YtadlccdmbnimaaaEvSel
import Derived.Test.YtadlccdmbnimaaaEvCutW
namespace Go.Proofs.Ytadlccdmbnimaaa.lawEventTells
open Go.ChangeShapes Go.WideShapes Go.ChangeAt Go.RowKit Go.Deep Go.ChangeMaps
set_option linter.unusedVariables false
set_option linter.unusedSimpArgs false

theorem evs_self (x : List Ev) : sameB evB x x = true := (sameB_eq evB_eq).2 rfl
set_option maxRecDepth 100000 in
set_option maxHeartbeats 4000000 in
theorem walk (lv : Value) (l : List Ev) (f t : ByteArray) (w : World) (hl : EvIn w lv l) :
    Calls Try.prog 3 #[lv, .agg #[.string f, .string t]] w fun e w' => e = .returned (.bool true) ∧ Below w.heap.size w w' := by
  have HL := Lib.hid hl
  obtain ⟨s2, c2, rfl, _, _⟩ := hl.form
  clear hl
  by_cases h1 : l.length ≤ 60
  · have BL : Hid (l.length ≤ 60 ∧ (cutE l).length ≤ 60) := Lib.hid (by have := cut_len l; omega)
    go_enter Try.func3, Try.ntmps3
    go_wp2_with (first
      | (go_at_call 9; refine (event_awake _).mono ?_; rintro e w1 ⟨rfl, h1⟩; have HX := Lib.hid (h1.keep (new_block w _) (by simp)); have HF := Lib.hid (((Fr.refl [] w).alloc _).trans h1 (by simp)); replace HL := Lib.hid (LIn.keep0 HL.out HF.out); clear h1)
      | (go_at_call 10; refine (few_any _ _ _ HL.out).mono ?_; rintro e wn ⟨rfl, rfl⟩)
      | (go_at_call 11; refine (event_cut _ l _ (LIn.keep0 HL.out (by first | exact (Fr.refl [] _).drew | exact Fr.refl _ _)) (by have := BL.out; unfold many; omega)).mono ?_; rintro e wn ⟨vn, rfl, h1, h2⟩; obtain ⟨sn, cn, rfl, _, _⟩ := h1.form; have ha : Fr [] _ wn := (by first | exact ((Fr.refl [] _).drew).trans h2 (by simp) | exact h2); replace HL := Lib.hid (LIn.keep0 HL.out ha); replace HX := Lib.hid (ha.keep HX.out (by simp)); replace HF := Lib.hid (HF.out.trans ha (by simp)); obtain ⟨b0, b1, _⟩ := cells2 HX.out; have HP := Lib.hid h1; clear h1 h2 ha)
      | (go_at_call 12; refine (rcut_any _ l _ (LIn.keep0 HL.out (by first | exact (Fr.refl [] _).drew | exact Fr.refl _ _)) (by have := BL.out; unfold many; omega)).mono ?_; rintro e wn ⟨vn, rfl, h1, h2⟩; replace h1 := RowsAt.read h1; obtain ⟨sn, cn, rfl, _, _⟩ := h1.form; have ha : Fr [] _ wn := (by first | exact ((Fr.refl [] _).drew).trans h2 (by simp) | exact h2); replace HL := Lib.hid (LIn.keep0 HL.out ha); replace HX := Lib.hid (ha.keep HX.out (by simp)); replace HF := Lib.hid (HF.out.trans ha (by simp)); obtain ⟨b0, b1, _⟩ := cells2 HX.out; have HQ := Lib.hid h1; (try replace HP := Lib.hid (RowsIn.keep0 HP.out ha)); clear h1 h2 ha))
    obtain ⟨wq, hwq⟩ : ∃ wq, wq = wn := ⟨_, rfl⟩
    rw [← hwq]
    go_loopw [8] (fun v wr => ∃ i : Nat, v = .int .i64 i ∧ i ≤ (cutE l).length ∧ Fr [] wq wr) (fun v _ => (cutE l).length - (intOf v).toNat)
    case atStart => exact ⟨0, rfl, Nat.zero_le _, Fr.refl _ _⟩
    case round =>
      obtain ⟨i, rfl, hi, hf⟩ := hrel
      rw [hwq] at hf
      have HF2 := Lib.hid hf
      clear hf
      have hbl := BL.out
      by_cases h : i < (cutE l).length
      · obtain ⟨r, hr⟩ : ∃ r, (cutE l)[i]? = some r := ⟨_, List.getElem?_eq_getElem h⟩
        obtain ⟨g1, o1, d1, e1, _, k1⟩ := RowsIn.here (RowsIn.keep0 HP.out HF2.out) (by omega)
        cases e1
        obtain ⟨g2, o2, d2, e2, _, k2⟩ := RowsIn.here (RowsIn.keep0 HQ.out HF2.out) (by omega)
        cases e2
        obtain ⟨u1, p1, hu1⟩ := k1 i r hr
        obtain ⟨u2, p2, hu2⟩ := k2 i r hr
        have HU1 := Lib.hid hu1
        have HU2 := Lib.hid hu2
        have A1 := fun n : After [] wr => n.cell p1 (by simp)
        have A2 := fun n : After [] wr => n.cell p2 (by simp)
        have t1 : decide (i < (cutE l).length) = true := by simpa using h
        clear hr k1 k2 hu1 hu2 p1 p2
        go_wp2_with fail
        refine wp_region_after [] (by kernel_rfl) (by kernel_rfl) ?_
        repeat (go_big_quiet_step ((go_at_call 13; exact After.quiet_bool (revents_any _ _ r r _ (LIn.keep0 HU1.out (After.fr _)) (LIn.keep0 HU2.out (After.fr _))) (evs_self r))))
        refine wpQuiet_nil ?_
        rintro _ ⟨nq, rfl⟩
        go_wp2
        go_roundw
        case rel => exact ⟨i + 1, by go_num, by omega, by rw [hwq]; exact HF2.out.trans nq.fr (by simp)⟩
        case measure => simp [intOf]; omega
      · have t1 : decide (i < (cutE l).length) = false := by simpa using h
        replace HL := Lib.hid (LIn.keep0 HL.out HF2.out)
        replace HX := Lib.hid (HF2.out.keep HX.out (by simp))
        replace HF := Lib.hid (HF.out.trans HF2.out (by simp))
        obtain ⟨b0, b1, _⟩ := cells2 HX.out
        clear HP HQ
        go_wp2_with fail
        go_region_held3 (fun w' => w'.cell? ⟨w.heap.size, 0, none⟩ = some (.string f) ∧ w'.cell? ⟨w.heap.size, 1, none⟩ = some (.string t)) (go_keep) (first
          | (go_at_call 14; refine (event_filter _ l f t _ (LIn.keep0 HL.out (by first | exact (Fr.refl [] _).drew | exact Fr.refl _ _)) (by have := BL.out; unfold many; omega)).mono ?_; rintro e wn ⟨vn, rfl, h1, h2⟩; obtain ⟨sn, cn, rfl, _, _⟩ := h1.form; have ha : Fr [] _ wn := (by first | exact ((Fr.refl [] _).drew).trans h2 (by simp) | exact h2); replace HL := Lib.hid (LIn.keep0 HL.out ha); replace HX := Lib.hid (ha.keep HX.out (by simp)); replace HF := Lib.hid (HF.out.trans ha (by simp)); (try replace HP := Lib.hid (LIn.keep0 HP.out ha)); (try replace HQ := Lib.hid (LIn.keep0 HQ.out ha)); (try replace HA := Lib.hid (LIn.keep0 HA.out ha)); (try replace HC := Lib.hid (LIn.keep0 HC.out ha)); (try replace HD := Lib.hid (LIn.keep0 HD.out ha)); (try replace HE := Lib.hid (LIn.keep0 HE.out ha)); obtain ⟨b0, b1, _⟩ := cells2 HX.out; have HA := Lib.hid h1; clear h1 h2 ha)
          | (go_at_call 15; refine (rfilter_any _ l f t _ (LIn.keep0 HL.out (by first | exact (Fr.refl [] _).drew | exact Fr.refl _ _)) (by have := BL.out; unfold many; omega)).mono ?_; rintro e wn ⟨vn, rfl, h1, h2⟩; replace h1 := EvAt.read h1; obtain ⟨sn, cn, rfl, _, _⟩ := h1.form; have ha : Fr [] _ wn := (by first | exact ((Fr.refl [] _).drew).trans h2 (by simp) | exact h2); replace HL := Lib.hid (LIn.keep0 HL.out ha); replace HX := Lib.hid (ha.keep HX.out (by simp)); replace HF := Lib.hid (HF.out.trans ha (by simp)); (try replace HP := Lib.hid (LIn.keep0 HP.out ha)); (try replace HQ := Lib.hid (LIn.keep0 HQ.out ha)); (try replace HA := Lib.hid (LIn.keep0 HA.out ha)); (try replace HC := Lib.hid (LIn.keep0 HC.out ha)); (try replace HD := Lib.hid (LIn.keep0 HD.out ha)); (try replace HE := Lib.hid (LIn.keep0 HE.out ha)); obtain ⟨b0, b1, _⟩ := cells2 HX.out; have HC := Lib.hid h1; clear h1 h2 ha)
          | (go_at_call 16; refine (event_last _ l _ (LIn.keep0 HL.out (by first | exact (Fr.refl [] _).drew | exact Fr.refl _ _)) (by have := BL.out; unfold many; omega)).mono ?_; rintro e wn ⟨vn, rfl, h1, h2⟩; obtain ⟨sn, cn, rfl, _, _⟩ := h1.form; have ha : Fr [] _ wn := (by first | exact ((Fr.refl [] _).drew).trans h2 (by simp) | exact h2); replace HL := Lib.hid (LIn.keep0 HL.out ha); replace HX := Lib.hid (ha.keep HX.out (by simp)); replace HF := Lib.hid (HF.out.trans ha (by simp)); (try replace HP := Lib.hid (LIn.keep0 HP.out ha)); (try replace HQ := Lib.hid (LIn.keep0 HQ.out ha)); (try replace HA := Lib.hid (LIn.keep0 HA.out ha)); (try replace HC := Lib.hid (LIn.keep0 HC.out ha)); (try replace HD := Lib.hid (LIn.keep0 HD.out ha)); (try replace HE := Lib.hid (LIn.keep0 HE.out ha)); obtain ⟨b0, b1, _⟩ := cells2 HX.out; have HD := Lib.hid h1; clear h1 h2 ha)
          | (go_at_call 17; refine (rlast_any _ l _ (LIn.keep0 HL.out (by first | exact (Fr.refl [] _).drew | exact Fr.refl _ _)) (by have := BL.out; unfold many; omega)).mono ?_; rintro e wn ⟨vn, rfl, h1, h2⟩; replace h1 := EvAt.read h1; obtain ⟨sn, cn, rfl, _, _⟩ := h1.form; have ha : Fr [] _ wn := (by first | exact ((Fr.refl [] _).drew).trans h2 (by simp) | exact h2); replace HL := Lib.hid (LIn.keep0 HL.out ha); replace HX := Lib.hid (ha.keep HX.out (by simp)); replace HF := Lib.hid (HF.out.trans ha (by simp)); (try replace HP := Lib.hid (LIn.keep0 HP.out ha)); (try replace HQ := Lib.hid (LIn.keep0 HQ.out ha)); (try replace HA := Lib.hid (LIn.keep0 HA.out ha)); (try replace HC := Lib.hid (LIn.keep0 HC.out ha)); (try replace HD := Lib.hid (LIn.keep0 HD.out ha)); (try replace HE := Lib.hid (LIn.keep0 HE.out ha)); obtain ⟨b0, b1, _⟩ := cells2 HX.out; have HE := Lib.hid h1; clear h1 h2 ha)
          | (go_at_call 13; refine (revents_any _ _ _ _ _ (by first | exact LIn.keep0 HA.out (by first | exact (Fr.refl [] _).drew | exact Fr.refl _ _) | exact LIn.keep0 HD.out (by first | exact (Fr.refl [] _).drew | exact Fr.refl _ _)) (by first | exact LIn.keep0 HC.out (by first | exact (Fr.refl [] _).drew | exact Fr.refl _ _) | exact LIn.keep0 HE.out (by first | exact (Fr.refl [] _).drew | exact Fr.refl _ _))).mono ?_; rintro e wn ⟨rfl, h2⟩; rw [evs_self]; have ha : Fr [] _ wn := (by first | exact ((Fr.refl [] _).drew).trans h2 (by simp) | exact h2); replace HL := Lib.hid (LIn.keep0 HL.out ha); replace HX := Lib.hid (ha.keep HX.out (by simp)); replace HF := Lib.hid (HF.out.trans ha (by simp)); (try replace HP := Lib.hid (LIn.keep0 HP.out ha)); (try replace HQ := Lib.hid (LIn.keep0 HQ.out ha)); (try replace HA := Lib.hid (LIn.keep0 HA.out ha)); (try replace HC := Lib.hid (LIn.keep0 HC.out ha)); (try replace HD := Lib.hid (LIn.keep0 HD.out ha)); (try replace HE := Lib.hid (LIn.keep0 HE.out ha)); obtain ⟨b0, b1, _⟩ := cells2 HX.out; clear h2 ha))
        all_goals go_wp2
        all_goals go_ret
        all_goals exact ⟨rfl, HF.out.below (Nat.le_refl _) (by simp)⟩
  · go_enter Try.func3, Try.ntmps3
    go_wp2_with (first
      | (go_at_call 9; refine (event_awake _).mono ?_; rintro e w1 ⟨rfl, h1⟩; have HF := Lib.hid (((Fr.refl [] w).alloc _).trans h1 (by simp)); replace HL := Lib.hid (LIn.keep0 HL.out HF.out); clear h1)
      | (go_at_call 10; refine (few_any _ _ _ HL.out).mono ?_; rintro e wn ⟨rfl, rfl⟩))
    go_ret
    exact ⟨rfl, HF.out.below (Nat.le_refl _) (by simp)⟩

set_option maxRecDepth 100000 in
theorem contract (H : Type) (enc : TypeId × Value → H) (W : World) (base : Nat) (args : Array Value) (ds gs : List (DataW H)) (before : List MemPlace)
    (hval0 : ∀ (j : Nat) t v, Try.f3.params[j]? = some t → args[j]? = some v → Value.okWide Try.prog W .any base t v)
    (hW : DataW.Whole enc Try.prog Try.f3.params.toList Rows.eventTellsSpec.vars false W args.toList ds gs before) :
    Calls Try.prog 3 args W fun e W' => ∃ v, e = .returned v ∧ Rows.eventTellsSpec.post enc Try.prog Try.f3 false true false false W args v W' := by
  have hval : ∀ (j : Nat) t v, Try.f3.params[j]? = some t → args[j]? = some v → Value.okWide Try.prog W .any base t v := hval0
  have hW' := hW
  obtain ⟨p, q, hA0, hV, rfl, hfz, hnd⟩ := hW
  have hA : DataW.TrodAll enc Try.prog W 0 (fun _ => true) true Try.f3.params.toList args.toList ds p := hA0
  rw [Try.params3] at hA hval
  obtain ⟨v0, vs0, d0, ds0, p0, q0, hargs, rfl, rfl, h0, r0⟩ := trodAll_cons hA
  obtain ⟨v1, vs1, d1, ds1, p1, q1, rfl, rfl, rfl, h1, r1⟩ := trodAll_cons r0
  obtain ⟨rfl, rfl, rfl⟩ := trodAll_nil r1
  obtain rfl : args = #[v0, v1] := by cases args; simp_all
  obtain ⟨rfl, rfl⟩ := trodVars_none hV
  have k0 := h0
  have lt0 : ∀ x ∈ p0, x.block < W.heap.size := by obtain ⟨m, hm⟩ := k0; exact DataW.trod_lt m _ _ _ hm
  have k1 := h1
  have lt1 : ∀ x ∈ p1, x.block < W.heap.size := by obtain ⟨m, hm⟩ := k1; exact DataW.trod_lt m _ _ _ hm
  obtain ⟨l, hl⟩ := open_events (hval 0 22 v0 rfl rfl) h0
  obtain ⟨f, t, rfl, wf, wt⟩ := open_range (hval 1 24 v1 rfl rfl) h1
  clear hA0 hval0 hval
  refine (walk v0 l f t W hl).mono fun e W' ⟨he, bel⟩ => ?_
  subst he
  exact ⟨_, rfl, _, _, _, [], _, [], hW', trodAll_mk1 (shut_bool Try.underlying4 _), (trodAll_cons_mk (Below.trod laid_prog (by kernel_rfl) (of_decide_eq_true (by kernel_rfl)) k0 bel lt0) (trodAll_cons_mk (Below.trod laid_prog (by kernel_rfl) (of_decide_eq_true (by kernel_rfl)) k1 bel lt1) trodAll_mk0)), rfl, bel.frame _, fun h => by cases h⟩

set_option maxRecDepth 100000 in
theorem lifted (os : Os) (started : os.Started) (H : Type) (enc : TypeId × Value → H) :
    ReturnsInHanded {} Try.checked os 3 .any (Rows.eventTellsSpec.pre6 enc Try.prog Try.f3 Rows.eventTellsRow.domain false) (Rows.eventTellsSpec.post enc Try.prog Try.f3 false true false false) := by
  refine returnsInHanded_of_change (C := Try.checked) own_prog started (by kernel_rfl) Try.func3
    (ChangeSpec.witness6 (enc := enc) (C := Try.checked) false ⟨#[], #[.slice none 0 0, .agg #[.string ⟨#[]⟩, .string ⟨#[]⟩]], []⟩ 8 (by kernel_rfl) (by kernel_rfl) (by kernel_rfl) (by kernel_rfl)) ?_
  intro W base args ds gs before hval hW _ _
  exact contract H enc W base args ds gs before hval hW

theorem proved : Rows.EventTellsSaid :=
  OpenClaim.holds_of_wide 3 Try.f3 rfl rfl rfl rfl rfl rfl rfl ⟨rfl, rfl, rfl, rfl, rfl⟩ rfl rfl rfl rfl rfl (by kernel_rfl) Try.func3 (by kernel_rfl)
    (of_decide_eq_true (by kernel_rfl)) (by unfold Func.isWrapper; first | (rw [if_pos (by decide +kernel)]; kernel_rfl) | (rw [if_neg (by decide +kernel)]; exact ⟨rfl, rfl⟩))
    (fun os started H enc _ => lifted os started H enc)

end Go.Proofs.Ytadlccdmbnimaaa.lawEventTells
