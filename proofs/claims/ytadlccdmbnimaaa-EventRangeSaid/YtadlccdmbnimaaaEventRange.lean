/- What a range has of a map that events made is what its events make of what it has: for every two lists and every range. No condition. -/
import Derived.Test.YtadlccdmbnimaaaEvLaw2
import Derived.Test.YtadlccdmbnimaaaEvCmp
namespace Go.Proofs.Ytadlccdmbnimaaa.lawEventRange
open Go.ChangeShapes Go.WideShapes Go.ChangeAt Go.RowKit Go.Deep Go.ChangeMaps
set_option linter.unusedVariables false
set_option linter.unusedSimpArgs false

set_option maxRecDepth 100000 in
set_option maxHeartbeats 4000000 in
theorem walk (mv lv : Value) (m : List Kv) (l : List Ev) (f t : ByteArray) (w : World) (hm : KvIn w mv m) (hl : EvIn w lv l) :
    Calls Try.prog 6 #[mv, lv, .agg #[.string f, .string t]] w fun e w' => e = .returned (.bool true) ∧ Below w.heap.size w w' := by
  have HM := Lib.hid hm
  have HL := Lib.hid hl
  obtain ⟨s1, c1, rfl, _, _⟩ := hm.form
  obtain ⟨s2, c2, rfl, _, _⟩ := hl.form
  clear hm hl
  by_cases h1 : l.length ≤ 60
  · by_cases h2 : m.length ≤ 60
    · cases h3 : mapB m
      all_goals
        have HB := Lib.hid h3
        clear h3
        have t2 : decide ((60 : Int) < (m.length : Int)) = false := by simp; omega
        go_enter Try.func6, Try.ntmps6
        go_wp2_with (first
          | (go_at_call 9; refine (event_awake _).mono ?_; rintro e w1 ⟨rfl, h1⟩; have HX := Lib.hid (h1.keep (new_block w _) (by simp)); have HF := Lib.hid (((Fr.refl [] w).alloc _).trans h1 (by simp)); replace HM := Lib.hid (LIn.keep0 HM.out HF.out); replace HL := Lib.hid (LIn.keep0 HL.out HF.out); clear h1)
          | (go_at_call 10; refine (few_any _ _ _ HL.out).mono ?_; rintro e wn ⟨rfl, rfl⟩)
          | (go_at_call 18; refine (rmap_any _ _ _ HM.out).mono ?_; rintro e w2 ⟨rfl, h2⟩; rw [HB.out]; replace HM := Lib.hid (LIn.keep0 HM.out h2); replace HL := Lib.hid (LIn.keep0 HL.out h2); replace HX := Lib.hid (h2.keep HX.out (by simp)); replace HF := Lib.hid (HF.out.trans h2 (by simp)); clear h2)
          )
      · go_ret
        exact ⟨rfl, HF.out.below (Nat.le_refl _) (by simp)⟩
      · have SRT := Lib.hid (mapB_srt.1 HB.out)
        have BM : Hid (m.length ≤ 60 ∧ l.length ≤ 60) := Lib.hid ⟨h2, h1⟩
        have BF : Hid ((foldK m l).length ≤ 120) := Lib.hid (by have := foldK_len l m; omega)
        have BR : Hid ((restrictK f t m).length ≤ 60 ∧ (filterE f t l).length ≤ 60) := Lib.hid (by have := restrict_len f t m; have := filter_len f t l; omega)
        obtain ⟨b0, b1, _⟩ := cells2 HX.out
        go_region_held3 (fun w' => w'.cell? ⟨w.heap.size, 0, none⟩ = some (.string f) ∧ w'.cell? ⟨w.heap.size, 1, none⟩ = some (.string t)) (go_keep) (first
          | (go_at_call 19; refine (event_fold _ _ m l _ (LIn.keep0 HM.out (by first | exact (Fr.refl [] _).drew | exact Fr.refl _ _)) (LIn.keep0 HL.out (by first | exact (Fr.refl [] _).drew | exact Fr.refl _ _)) SRT.out (by have := BM.out; unfold many; omega) (by have := BM.out; unfold many; omega)).mono ?_; rintro e wn ⟨vn, rfl, h1, h2⟩; obtain ⟨sn, cn, rfl, _, _⟩ := h1.form; have ha : Fr [] _ wn := (by first | exact ((Fr.refl [] _).drew).trans h2 (by simp) | exact h2); replace HM := Lib.hid (LIn.keep0 HM.out ha); replace HL := Lib.hid (LIn.keep0 HL.out ha); replace HX := Lib.hid (ha.keep HX.out (by simp)); replace HF := Lib.hid (HF.out.trans ha (by simp)); obtain ⟨b0, b1, _⟩ := cells2 HX.out; have HA := Lib.hid h1; clear h1 h2 ha)
          | (go_at_call 22; refine (event_restrict _ (foldK m l) f t _ (LIn.keep0 HA.out (by first | exact (Fr.refl [] _).drew | exact Fr.refl _ _)) (by have := BF.out; unfold many; omega)).mono ?_; rintro e wn ⟨vn, rfl, h1, h2⟩; obtain ⟨sn, cn, rfl, _, _⟩ := h1.form; have ha : Fr [] _ wn := (by first | exact ((Fr.refl [] _).drew).trans h2 (by simp) | exact h2); replace HM := Lib.hid (LIn.keep0 HM.out ha); replace HL := Lib.hid (LIn.keep0 HL.out ha); replace HX := Lib.hid (ha.keep HX.out (by simp)); replace HF := Lib.hid (HF.out.trans ha (by simp)); (try replace HA := Lib.hid (LIn.keep0 HA.out ha)); obtain ⟨b0, b1, _⟩ := cells2 HX.out; have HR := Lib.hid h1; clear h1 h2 ha))
        go_wp2_with fail
        go_region_held3 (fun w' => w'.cell? ⟨w.heap.size, 0, none⟩ = some (.string f) ∧ w'.cell? ⟨w.heap.size, 1, none⟩ = some (.string t)) (go_keep) (first
          | (go_at_call 22; refine (event_restrict _ m f t _ (LIn.keep0 HM.out (by first | exact (Fr.refl [] _).drew | exact Fr.refl _ _)) (by have := BM.out; unfold many; omega)).mono ?_; rintro e wn ⟨vn, rfl, h1, h2⟩; obtain ⟨sn, cn, rfl, _, _⟩ := h1.form; have ha : Fr [] _ wn := (by first | exact ((Fr.refl [] _).drew).trans h2 (by simp) | exact h2); replace HM := Lib.hid (LIn.keep0 HM.out ha); replace HL := Lib.hid (LIn.keep0 HL.out ha); replace HX := Lib.hid (ha.keep HX.out (by simp)); replace HF := Lib.hid (HF.out.trans ha (by simp)); (try replace HR := Lib.hid (LIn.keep0 HR.out ha)); (try replace HQ := Lib.hid (LIn.keep0 HQ.out ha)); obtain ⟨b0, b1, _⟩ := cells2 HX.out; have HP := Lib.hid h1; clear h1 h2 ha)
          | (go_at_call 14; refine (event_filter _ l f t _ (LIn.keep0 HL.out (by first | exact (Fr.refl [] _).drew | exact Fr.refl _ _)) (by have := BM.out; unfold many; omega)).mono ?_; rintro e wn ⟨vn, rfl, h1, h2⟩; obtain ⟨sn, cn, rfl, _, _⟩ := h1.form; have ha : Fr [] _ wn := (by first | exact ((Fr.refl [] _).drew).trans h2 (by simp) | exact h2); replace HM := Lib.hid (LIn.keep0 HM.out ha); replace HL := Lib.hid (LIn.keep0 HL.out ha); replace HX := Lib.hid (ha.keep HX.out (by simp)); replace HF := Lib.hid (HF.out.trans ha (by simp)); (try replace HR := Lib.hid (LIn.keep0 HR.out ha)); (try replace HP := Lib.hid (LIn.keep0 HP.out ha)); obtain ⟨b0, b1, _⟩ := cells2 HX.out; have HQ := Lib.hid h1; clear h1 h2 ha)
          | (go_at_call 19; refine (event_fold _ _ (restrictK f t m) (filterE f t l) _ (LIn.keep0 HP.out (by first | exact (Fr.refl [] _).drew | exact Fr.refl _ _)) (LIn.keep0 HQ.out (by first | exact (Fr.refl [] _).drew | exact Fr.refl _ _)) (srt_filter SRT.out _) (by have := BR.out; unfold many; omega) (by have := BR.out; unfold many; omega)).mono ?_; rintro e wn ⟨vn, rfl, h1, h2⟩; obtain ⟨sn, cn, rfl, _, _⟩ := h1.form; have ha : Fr [] _ wn := (by first | exact ((Fr.refl [] _).drew).trans h2 (by simp) | exact h2); replace HM := Lib.hid (LIn.keep0 HM.out ha); replace HL := Lib.hid (LIn.keep0 HL.out ha); replace HX := Lib.hid (ha.keep HX.out (by simp)); replace HF := Lib.hid (HF.out.trans ha (by simp)); (try replace HR := Lib.hid (LIn.keep0 HR.out ha)); (try replace HP := Lib.hid (LIn.keep0 HP.out ha)); (try replace HQ := Lib.hid (LIn.keep0 HQ.out ha)); obtain ⟨b0, b1, _⟩ := cells2 HX.out; have HC := Lib.hid h1; clear h1 h2 ha))
        all_goals
          have HE1 : Hid (sameB kvB (restrictK f t (foldK m l)) (foldK (restrictK f t m) (filterE f t l)) = true) := Lib.hid ((sameB_eq kvB_eq).2 (restrict_fold SRT.out l f t))
          have HE2 : Hid (mapB (restrictK f t (foldK m l)) = true) := Lib.hid (mapB_srt.2 (srt_filter (srt_foldK SRT.out) _))
          go_wp2_with (first
            | (go_at_call 20; refine (rkvs_any _ _ _ _ _ HR.out HC.out).mono ?_; rintro e wn ⟨rfl, h2⟩; rw [HE1.out]; replace HR := Lib.hid (LIn.keep0 HR.out h2); replace HF := Lib.hid (HF.out.trans h2 (by simp)); clear h2)
            | (go_at_call 18; refine (rmap_any _ _ _ HR.out).mono ?_; rintro e wn ⟨rfl, h2⟩; rw [HE2.out]; replace HF := Lib.hid (HF.out.trans h2 (by simp)); clear h2))
          go_ret
          exact ⟨rfl, HF.out.below (Nat.le_refl _) (by simp)⟩
    · have t2 : decide ((60 : Int) < (m.length : Int)) = true := by simp; omega
      go_enter Try.func6, Try.ntmps6
      go_wp2_with (first
        | (go_at_call 9; refine (event_awake _).mono ?_; rintro e w1 ⟨rfl, h1⟩; have HF := Lib.hid (((Fr.refl [] w).alloc _).trans h1 (by simp)); replace HL := Lib.hid (LIn.keep0 HL.out HF.out); clear h1)
        | (go_at_call 10; refine (few_any _ _ _ HL.out).mono ?_; rintro e wn ⟨rfl, rfl⟩))
      go_ret
      exact ⟨rfl, HF.out.below (Nat.le_refl _) (by simp)⟩
  · go_enter Try.func6, Try.ntmps6
    go_wp2_with (first
      | (go_at_call 9; refine (event_awake _).mono ?_; rintro e w1 ⟨rfl, h1⟩; have HF := Lib.hid (((Fr.refl [] w).alloc _).trans h1 (by simp)); replace HL := Lib.hid (LIn.keep0 HL.out HF.out); clear h1)
      | (go_at_call 10; refine (few_any _ _ _ HL.out).mono ?_; rintro e wn ⟨rfl, rfl⟩))
    go_ret
    exact ⟨rfl, HF.out.below (Nat.le_refl _) (by simp)⟩

set_option maxRecDepth 100000 in
theorem contract (H : Type) (enc : TypeId × Value → H) (W : World) (base : Nat) (args : Array Value) (ds gs : List (DataW H)) (before : List MemPlace)
    (hval0 : ∀ (j : Nat) t v, Try.f6.params[j]? = some t → args[j]? = some v → Value.okWide Try.prog W .any base t v)
    (hW : DataW.Whole enc Try.prog Try.f6.params.toList Rows.eventRangeSpec.vars false W args.toList ds gs before) :
    Calls Try.prog 6 args W fun e W' => ∃ v, e = .returned v ∧ Rows.eventRangeSpec.post enc Try.prog Try.f6 false true false false W args v W' := by
  have hval : ∀ (j : Nat) t v, Try.f6.params[j]? = some t → args[j]? = some v → Value.okWide Try.prog W .any base t v := hval0
  have hW' := hW
  obtain ⟨p, q, hA0, hV, rfl, hfz, hnd⟩ := hW
  have hA : DataW.TrodAll enc Try.prog W 0 (fun _ => true) true Try.f6.params.toList args.toList ds p := hA0
  rw [Try.params6] at hA hval
  obtain ⟨v0, vs0, d0, ds0, p0, q0, hargs, rfl, rfl, h0, r0⟩ := trodAll_cons hA
  obtain ⟨v1, vs1, d1, ds1, p1, q1, rfl, rfl, rfl, h1, r1⟩ := trodAll_cons r0
  obtain ⟨v2, vs2, d2, ds2, p2, q2, rfl, rfl, rfl, h2, r2⟩ := trodAll_cons r1
  obtain ⟨rfl, rfl, rfl⟩ := trodAll_nil r2
  obtain rfl : args = #[v0, v1, v2] := by cases args; simp_all
  obtain ⟨rfl, rfl⟩ := trodVars_none hV
  have k0 := h0
  have lt0 : ∀ x ∈ p0, x.block < W.heap.size := by obtain ⟨m, hm⟩ := k0; exact DataW.trod_lt m _ _ _ hm
  have k1 := h1
  have lt1 : ∀ x ∈ p1, x.block < W.heap.size := by obtain ⟨m, hm⟩ := k1; exact DataW.trod_lt m _ _ _ hm
  have k2 := h2
  have lt2 : ∀ x ∈ p2, x.block < W.heap.size := by obtain ⟨m, hm⟩ := k2; exact DataW.trod_lt m _ _ _ hm
  obtain ⟨m, hm⟩ := open_kvs (hval 0 33 v0 rfl rfl) h0
  obtain ⟨l, hl⟩ := open_events (hval 1 22 v1 rfl rfl) h1
  obtain ⟨f, t, rfl, wf, wt⟩ := open_range (hval 2 24 v2 rfl rfl) h2
  clear hA0 hval0 hval
  refine (walk v0 v1 m l f t W hm hl).mono fun e W' ⟨he, bel⟩ => ?_
  subst he
  exact ⟨_, rfl, _, _, _, [], _, [], hW', trodAll_mk1 (shut_bool Try.underlying4 _), (trodAll_cons_mk (Below.trod laid_prog (by kernel_rfl) (of_decide_eq_true (by kernel_rfl)) k0 bel lt0) (trodAll_cons_mk (Below.trod laid_prog (by kernel_rfl) (of_decide_eq_true (by kernel_rfl)) k1 bel lt1) (trodAll_cons_mk (Below.trod laid_prog (by kernel_rfl) (of_decide_eq_true (by kernel_rfl)) k2 bel lt2) trodAll_mk0))), rfl, bel.frame _, fun h => by cases h⟩

set_option maxRecDepth 100000 in
theorem lifted (os : Os) (started : os.Started) (H : Type) (enc : TypeId × Value → H) :
    ReturnsInHanded {} Try.checked os 6 .any (Rows.eventRangeSpec.pre6 enc Try.prog Try.f6 Rows.eventRangeRow.domain false) (Rows.eventRangeSpec.post enc Try.prog Try.f6 false true false false) := by
  refine returnsInHanded_of_change (C := Try.checked) own_prog started (by kernel_rfl) Try.func6
    (ChangeSpec.witness6 (enc := enc) (C := Try.checked) false ⟨#[], #[.slice none 0 0, .slice none 0 0, .agg #[.string ⟨#[]⟩, .string ⟨#[]⟩]], []⟩ 8 (by kernel_rfl) (by kernel_rfl) (by kernel_rfl) (by kernel_rfl)) ?_
  intro W base args ds gs before hval hW _ _
  exact contract H enc W base args ds gs before hval hW

theorem proved : Rows.EventRangeSaid :=
  OpenClaim.holds_of_wide 6 Try.f6 rfl rfl rfl rfl rfl rfl rfl ⟨rfl, rfl, rfl, rfl, rfl⟩ rfl rfl rfl rfl rfl (by kernel_rfl) Try.func6 (by kernel_rfl)
    (of_decide_eq_true (by kernel_rfl)) (by unfold Func.isWrapper; first | (rw [if_pos (by decide +kernel)]; kernel_rfl) | (rw [if_neg (by decide +kernel)]; exact ⟨rfl, rfl⟩))
    (fun os started H enc _ => lifted os started H enc)

end Go.Proofs.Ytadlccdmbnimaaa.lawEventRange
