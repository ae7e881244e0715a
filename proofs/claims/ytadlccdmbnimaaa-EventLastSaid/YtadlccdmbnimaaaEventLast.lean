/- Folded are all events, or each key's last one, the same: for every two lists. No condition. -/
import Derived.Test.YtadlccdmbnimaaaEvLaw2
import Derived.Test.YtadlccdmbnimaaaEvCmp
namespace Go.Proofs.Ytadlccdmbnimaaa.lawEventLast
open Go.ChangeShapes Go.WideShapes Go.ChangeAt Go.RowKit Go.Deep Go.ChangeMaps
set_option linter.unusedVariables false
set_option linter.unusedSimpArgs false

theorem kvs_self (x : List Kv) : sameB kvB x x = true := (sameB_eq kvB_eq).2 rfl
theorem evs_self (x : List Ev) : sameB evB x x = true := (sameB_eq evB_eq).2 rfl
theorem srt_next {l : List Ev} {j : Nat} {x y : Ev} (h : Srt Ev.key l) (hx : l[j]? = some x) (hy : l[j + 1]? = some y) : kl x.key y.key = true := by
  obtain ⟨h1, rfl⟩ := List.getElem?_eq_some_iff.1 hx
  obtain ⟨h2, rfl⟩ := List.getElem?_eq_some_iff.1 hy
  exact List.pairwise_iff_getElem.1 h j (j + 1) h1 h2 (by omega)
set_option maxRecDepth 100000 in
set_option maxHeartbeats 4000000 in
theorem walk (mv lv : Value) (m : List Kv) (l : List Ev) (w : World) (hm : KvIn w mv m) (hl : EvIn w lv l) :
    Calls Try.prog 5 #[mv, lv] w fun e w' => e = .returned (.bool true) ∧ Below w.heap.size w w' := by
  have HM := Lib.hid hm
  have HL := Lib.hid hl
  obtain ⟨s1, c1, rfl, _, _⟩ := hm.form
  obtain ⟨s2, c2, rfl, _, _⟩ := hl.form
  clear hm hl
  by_cases h1 : l.length ≤ 60
  · by_cases h2 : m.length ≤ 60
    · cases h3 : mapB m
      all_goals
        have HB := Lib.hid h3
        clear h3
        have t2 : decide ((60 : Int) < (m.length : Int)) = false := by simp; omega
        go_enter Try.func5, Try.ntmps5
        go_wp2_with (first
          | (go_at_call 9; refine (event_awake _).mono ?_; rintro e w1 ⟨rfl, h1⟩; have HF := Lib.hid h1; replace HM := Lib.hid (LIn.keep0 HM.out HF.out); replace HL := Lib.hid (LIn.keep0 HL.out HF.out); clear h1)
          | (go_at_call 10; refine (few_any _ _ _ HL.out).mono ?_; rintro e wn ⟨rfl, rfl⟩)
          | (go_at_call 18; refine (rmap_any _ _ _ HM.out).mono ?_; rintro e wn ⟨rfl, h2⟩; rw [HB.out]; have ha := h2; replace HM := Lib.hid (LIn.keep0 HM.out ha); replace HL := Lib.hid (LIn.keep0 HL.out ha); replace HF := Lib.hid (HF.out.trans ha (by simp)); clear h2 ha)
          | (go_at_call 16; refine (event_last _ l _ (LIn.keep0 HL.out (by first | exact (Fr.refl [] _).drew | exact Fr.refl _ _)) (by unfold many; omega)).mono ?_; rintro e wn ⟨vn, rfl, h1, h2⟩; obtain ⟨sn, cn, rfl, _, _⟩ := h1.form; have ha : Fr [] _ wn := (by first | exact ((Fr.refl [] _).drew).trans h2 (by simp) | exact h2); replace HM := Lib.hid (LIn.keep0 HM.out ha); replace HL := Lib.hid (LIn.keep0 HL.out ha); replace HF := Lib.hid (HF.out.trans ha (by simp)); have HX := Lib.hid h1; clear h1 h2; refine go_stop ?_))
        all_goals try unfold Stop
      · go_ret
        exact ⟨rfl, HF.out.below (Nat.le_refl _) (by simp)⟩
      · have SRT := Lib.hid (mapB_srt.1 HB.out)
        have BM : Hid (m.length ≤ 60 ∧ l.length ≤ 60) := Lib.hid ⟨h2, h1⟩
        have BF : Hid ((foldK m l).length ≤ 120) := Lib.hid (by have := foldK_len l m; omega)
        have HLE : Hid ((lastE l).length ≤ 60) := Lib.hid (by have := lastE_len l; omega)
        have HS := Lib.hid (srt_lastE l)
        have q2 := @run_geq Try.prog
        obtain ⟨wq, hwq⟩ : ∃ wq, wq = wn := ⟨_, rfl⟩
        go_wp2_with fail
        rw [← hwq]
        go_loopw [7] (fun v wr => ∃ j : Nat, v = .int .i64 ((j : Int) + 1) ∧ j ≤ (lastE l).length ∧ Fr [] wq wr) (fun v _ => (lastE l).length - (intOf v).toNat)
        case atStart => exact ⟨0, rfl, Nat.zero_le _, Fr.refl _ _⟩
        case round =>
          obtain ⟨j, rfl, hj, hf⟩ := hrel
          rw [hwq] at hf
          have HF2 := Lib.hid hf
          clear hf
          have hle := HLE.out
          by_cases h : j + 1 < (lastE l).length
          · obtain ⟨x, hx⟩ : ∃ x, (lastE l)[j]? = some x := ⟨_, List.getElem?_eq_getElem (by omega)⟩
            obtain ⟨y, hy⟩ : ∃ y, (lastE l)[j + 1]? = some y := ⟨_, List.getElem?_eq_getElem h⟩
            obtain ⟨g1, o1, d1, e1, _, l1, k1⟩ := EvIn.here (LIn.keep0 HX.out HF2.out) (by omega)
            cases e1
            obtain ⟨p0, p1, p2, p3⟩ := k1 j x hx
            obtain ⟨r0, r1, r2, r3⟩ := k1 (j + 1) y hy
            have hE2 : Op.bytesLess x.key.toList y.key.toList = true := srt_next HS.out hx hy
            have t1 : decide ((j : Int) + 1 < ((lastE l).length : Int)) = true := by simp; omega
            have e1 : IntKind.i64.wrap ((j : Int) + 1 - 1) = (j : Int) := by rw [IntWalk.i64_in _ ⟨by omega, by omega⟩]; omega
            have e2 : (j : Int) + 1 - 1 = (j : Int) := by omega
            have e3 : ((j : Int) + 1).toNat = j + 1 := by omega
            have e4 : (j : Int) + 1 < ((lastE l).length : Int) := by omega
            have e5 : (j : Int) < ((lastE l).length : Int) := by omega
            clear hx hy k1
            go_wp2_with fail
            go_quiet (fail)
            go_wp2
            go_roundw
            case rel => exact ⟨j + 1, by go_num, by omega, by rw [hwq]; exact HF2.out.drewN nq⟩
            case measure => simp [intOf]; omega
          · have t1 : decide ((j : Int) + 1 < ((lastE l).length : Int)) = false := by simp; omega
            replace HX := Lib.hid (LIn.keep0 HX.out HF2.out)
            replace HM := Lib.hid (LIn.keep0 HM.out HF2.out)
            replace HL := Lib.hid (LIn.keep0 HL.out HF2.out)
            replace HF := Lib.hid (HF.out.trans HF2.out (by simp))
            go_wp2_with ((go_at_call 19; refine (event_fold _ _ m l _ (LIn.keep0 HM.out (by first | exact (Fr.refl [] _).drew | exact Fr.refl _ _)) (LIn.keep0 HL.out (by first | exact (Fr.refl [] _).drew | exact Fr.refl _ _)) SRT.out (by have := BM.out; unfold many; omega) (by have := BM.out; unfold many; omega)).mono ?_; rintro e wn ⟨vn, rfl, h1, h2⟩; obtain ⟨sn, cn, rfl, _, _⟩ := h1.form; have ha : Fr [] _ wn := (by first | exact ((Fr.refl [] _).drew).trans h2 (by simp) | exact h2); replace HM := Lib.hid (LIn.keep0 HM.out ha); replace HL := Lib.hid (LIn.keep0 HL.out ha); replace HF := Lib.hid (HF.out.trans ha (by simp)); (try replace HX := Lib.hid (LIn.keep0 HX.out ha)); (try replace HA := Lib.hid (LIn.keep0 HA.out ha)); (try replace HC := Lib.hid (LIn.keep0 HC.out ha)); (try replace HD := Lib.hid (LIn.keep0 HD.out ha)); have HA := Lib.hid h1; clear h1 h2; refine go_stop ?_))
            unfold Stop
            have HEQ := Lib.hid (fold_last SRT.out l)
            go_wp2_with (first
              | (go_at_call 19; refine (event_fold _ _ m (lastE l) _ (LIn.keep0 HM.out (by first | exact (Fr.refl [] _).drew | exact Fr.refl _ _)) (LIn.keep0 HX.out (by first | exact (Fr.refl [] _).drew | exact Fr.refl _ _)) SRT.out (by have := BM.out; unfold many; omega) (by have := HLE.out; unfold many; omega)).mono ?_; rintro e wn ⟨vn, rfl, h1, h2⟩; rw [HEQ.out] at h1; obtain ⟨sn, cn, rfl, _, _⟩ := h1.form; have ha : Fr [] _ wn := (by first | exact ((Fr.refl [] _).drew).trans h2 (by simp) | exact h2); replace HM := Lib.hid (LIn.keep0 HM.out ha); replace HL := Lib.hid (LIn.keep0 HL.out ha); replace HF := Lib.hid (HF.out.trans ha (by simp)); (try replace HX := Lib.hid (LIn.keep0 HX.out ha)); (try replace HA := Lib.hid (LIn.keep0 HA.out ha)); (try replace HC := Lib.hid (LIn.keep0 HC.out ha)); (try replace HD := Lib.hid (LIn.keep0 HD.out ha)); have HC := Lib.hid h1; clear h1 h2 ha)
              | (go_at_call 16; refine (event_last _ (lastE l) _ (LIn.keep0 HX.out (by first | exact (Fr.refl [] _).drew | exact Fr.refl _ _)) (by have := HLE.out; unfold many; omega)).mono ?_; rintro e wn ⟨vn, rfl, h1, h2⟩; rw [last_last] at h1; obtain ⟨sn, cn, rfl, _, _⟩ := h1.form; have ha : Fr [] _ wn := (by first | exact ((Fr.refl [] _).drew).trans h2 (by simp) | exact h2); replace HM := Lib.hid (LIn.keep0 HM.out ha); replace HL := Lib.hid (LIn.keep0 HL.out ha); replace HF := Lib.hid (HF.out.trans ha (by simp)); (try replace HX := Lib.hid (LIn.keep0 HX.out ha)); (try replace HA := Lib.hid (LIn.keep0 HA.out ha)); (try replace HC := Lib.hid (LIn.keep0 HC.out ha)); (try replace HD := Lib.hid (LIn.keep0 HD.out ha)); have HD := Lib.hid h1; clear h1 h2 ha)
              | (go_at_call 20; refine (rkvs_any _ _ _ _ _ (by first | exact LIn.keep0 HA.out (by first | exact (Fr.refl [] _).drew | exact Fr.refl _ _) | exact LIn.keep0 HC.out (by first | exact (Fr.refl [] _).drew | exact Fr.refl _ _)) (by first | exact LIn.keep0 HC.out (by first | exact (Fr.refl [] _).drew | exact Fr.refl _ _))).mono ?_; rintro e wn ⟨rfl, h2⟩; rw [kvs_self]; have ha : Fr [] _ wn := (by first | exact ((Fr.refl [] _).drew).trans h2 (by simp) | exact h2); replace HM := Lib.hid (LIn.keep0 HM.out ha); replace HL := Lib.hid (LIn.keep0 HL.out ha); replace HF := Lib.hid (HF.out.trans ha (by simp)); (try replace HX := Lib.hid (LIn.keep0 HX.out ha)); (try replace HA := Lib.hid (LIn.keep0 HA.out ha)); (try replace HC := Lib.hid (LIn.keep0 HC.out ha)); (try replace HD := Lib.hid (LIn.keep0 HD.out ha)); clear h2 ha)
              | (go_at_call 13; refine (revents_any _ _ _ _ _ (by first | exact LIn.keep0 HD.out (by first | exact (Fr.refl [] _).drew | exact Fr.refl _ _)) (by first | exact LIn.keep0 HX.out (by first | exact (Fr.refl [] _).drew | exact Fr.refl _ _))).mono ?_; rintro e wn ⟨rfl, h2⟩; rw [evs_self]; have ha : Fr [] _ wn := (by first | exact ((Fr.refl [] _).drew).trans h2 (by simp) | exact h2); replace HM := Lib.hid (LIn.keep0 HM.out ha); replace HL := Lib.hid (LIn.keep0 HL.out ha); replace HF := Lib.hid (HF.out.trans ha (by simp)); (try replace HX := Lib.hid (LIn.keep0 HX.out ha)); (try replace HA := Lib.hid (LIn.keep0 HA.out ha)); (try replace HC := Lib.hid (LIn.keep0 HC.out ha)); (try replace HD := Lib.hid (LIn.keep0 HD.out ha)); clear h2 ha))
            go_ret
            exact ⟨rfl, HF.out.below (Nat.le_refl _) (by simp)⟩
    · have t2 : decide ((60 : Int) < (m.length : Int)) = true := by simp; omega
      go_enter Try.func5, Try.ntmps5
      go_wp2_with (first
        | (go_at_call 9; refine (event_awake _).mono ?_; rintro e w1 ⟨rfl, h1⟩; have HF := Lib.hid h1; replace HL := Lib.hid (LIn.keep0 HL.out HF.out); clear h1)
        | (go_at_call 10; refine (few_any _ _ _ HL.out).mono ?_; rintro e wn ⟨rfl, rfl⟩))
      go_ret
      exact ⟨rfl, HF.out.below (Nat.le_refl _) (by simp)⟩
  · go_enter Try.func5, Try.ntmps5
    go_wp2_with (first
      | (go_at_call 9; refine (event_awake _).mono ?_; rintro e w1 ⟨rfl, h1⟩; have HF := Lib.hid h1; replace HL := Lib.hid (LIn.keep0 HL.out HF.out); clear h1)
      | (go_at_call 10; refine (few_any _ _ _ HL.out).mono ?_; rintro e wn ⟨rfl, rfl⟩))
    go_ret
    exact ⟨rfl, HF.out.below (Nat.le_refl _) (by simp)⟩

set_option maxRecDepth 100000 in
theorem contract (H : Type) (enc : TypeId × Value → H) (W : World) (base : Nat) (args : Array Value) (ds gs : List (DataW H)) (before : List MemPlace)
    (hval0 : ∀ (j : Nat) t v, Try.f5.params[j]? = some t → args[j]? = some v → Value.okWide Try.prog W .any base t v)
    (hW : DataW.Whole enc Try.prog Try.f5.params.toList Rows.eventLastSpec.vars false W args.toList ds gs before) :
    Calls Try.prog 5 args W fun e W' => ∃ v, e = .returned v ∧ Rows.eventLastSpec.post enc Try.prog Try.f5 false true false false W args v W' := by
  have hval : ∀ (j : Nat) t v, Try.f5.params[j]? = some t → args[j]? = some v → Value.okWide Try.prog W .any base t v := hval0
  have hW' := hW
  obtain ⟨p, q, hA0, hV, rfl, hfz, hnd⟩ := hW
  have hA : DataW.TrodAll enc Try.prog W 0 (fun _ => true) true Try.f5.params.toList args.toList ds p := hA0
  rw [Try.params5] at hA hval
  obtain ⟨v0, vs0, d0, ds0, p0, q0, hargs, rfl, rfl, h0, r0⟩ := trodAll_cons hA
  obtain ⟨v1, vs1, d1, ds1, p1, q1, rfl, rfl, rfl, h1, r1⟩ := trodAll_cons r0
  obtain ⟨rfl, rfl, rfl⟩ := trodAll_nil r1
  obtain rfl : args = #[v0, v1] := by cases args; simp_all
  obtain ⟨rfl, rfl⟩ := trodVars_none hV
  have k0 := h0
  have lt0 : ∀ x ∈ p0, x.block < W.heap.size := by obtain ⟨m, hm⟩ := k0; exact DataW.trod_lt m _ _ _ hm
  have k1 := h1
  have lt1 : ∀ x ∈ p1, x.block < W.heap.size := by obtain ⟨m, hm⟩ := k1; exact DataW.trod_lt m _ _ _ hm
  obtain ⟨m, hm⟩ := open_kvs (hval 0 33 v0 rfl rfl) h0
  obtain ⟨l, hl⟩ := open_events (hval 1 22 v1 rfl rfl) h1
  clear hA0 hval0 hval
  refine (walk v0 v1 m l W hm hl).mono fun e W' ⟨he, bel⟩ => ?_
  subst he
  exact ⟨_, rfl, _, _, _, [], _, [], hW', trodAll_mk1 (shut_bool Try.underlying4 _), (trodAll_cons_mk (Below.trod laid_prog (by kernel_rfl) (of_decide_eq_true (by kernel_rfl)) k0 bel lt0) (trodAll_cons_mk (Below.trod laid_prog (by kernel_rfl) (of_decide_eq_true (by kernel_rfl)) k1 bel lt1) trodAll_mk0)), rfl, bel.frame _, fun h => by cases h⟩

set_option maxRecDepth 100000 in
theorem lifted (os : Os) (started : os.Started) (H : Type) (enc : TypeId × Value → H) :
    ReturnsInHanded {} Try.checked os 5 .any (Rows.eventLastSpec.pre6 enc Try.prog Try.f5 Rows.eventLastRow.domain false) (Rows.eventLastSpec.post enc Try.prog Try.f5 false true false false) := by
  refine returnsInHanded_of_change (C := Try.checked) own_prog started (by kernel_rfl) Try.func5
    (ChangeSpec.witness6 (enc := enc) (C := Try.checked) false ⟨#[], #[.slice none 0 0, .slice none 0 0], []⟩ 8 (by kernel_rfl) (by kernel_rfl) (by kernel_rfl) (by kernel_rfl)) ?_
  intro W base args ds gs before hval hW _ _
  exact contract H enc W base args ds gs before hval hW

theorem proved : Rows.EventLastSaid :=
  OpenClaim.holds_of_wide 5 Try.f5 rfl rfl rfl rfl rfl rfl rfl ⟨rfl, rfl, rfl, rfl, rfl⟩ rfl rfl rfl rfl rfl (by kernel_rfl) Try.func5 (by kernel_rfl)
    (of_decide_eq_true (by kernel_rfl)) (by unfold Func.isWrapper; first | (rw [if_pos (by decide +kernel)]; kernel_rfl) | (rw [if_neg (by decide +kernel)]; exact ⟨rfl, rfl⟩))
    (fun os started H enc _ => lifted os started H enc)

end Go.Proofs.Ytadlccdmbnimaaa.lawEventLast
