/- What any events make of any map, and what a range has of that, as the document says; what was handed in stays as it was: for every two lists and every range. No condition. -/
import Derived.Test.YtadlccdmbnimaaaEvLaw2
import Derived.Test.YtadlccdmbnimaaaEvCmp
import Derived.Test.YtadlccdmbnimaaaEvFold
import Derived.Test.YtadlccdmbnimaaaEvSel
namespace Go.Proofs.Ytadlccdmbnimaaa.lawEventFolds
open Go.ChangeShapes Go.WideShapes Go.ChangeAt Go.RowKit Go.Deep Go.ChangeMaps
set_option linter.unusedVariables false
set_option linter.unusedSimpArgs false

theorem kvs_self (x : List Kv) : sameB kvB x x = true := (sameB_eq kvB_eq).2 rfl
set_option maxRecDepth 100000 in
set_option maxHeartbeats 4000000 in
theorem walk (mv lv : Value) (m : List Kv) (l : List Ev) (f t : ByteArray) (w : World) (hm : KvIn w mv m) (hl : EvIn w lv l) :
    Calls Try.prog 4 #[mv, lv, .agg #[.string f, .string t]] w fun e w' => e = .returned (.bool true) ∧ Below w.heap.size w w' := by
  have HM := Lib.hid hm
  have HL := Lib.hid hl
  obtain ⟨s1, c1, rfl, _, _⟩ := hm.form
  obtain ⟨s2, c2, rfl, _, _⟩ := hl.form
  clear hm hl
  by_cases h1 : l.length ≤ 60
  · by_cases h2 : m.length ≤ 60
    · cases h3 : mapB m
      all_goals
        have HB := Lib.hid h3
        clear h3
        have t2 : decide ((60 : Int) < (m.length : Int)) = false := by simp; omega
        go_enter Try.func4, Try.ntmps4
        go_wp2_with (first
          | (go_at_call 9; refine (event_awake _).mono ?_; rintro e w1 ⟨rfl, h1⟩; have HX := Lib.hid (h1.keep (new_block w _) (by simp)); have HF := Lib.hid (((Fr.refl [] w).alloc _).trans h1 (by simp)); replace HM := Lib.hid (LIn.keep0 HM.out HF.out); replace HL := Lib.hid (LIn.keep0 HL.out HF.out); clear h1)
          | (go_at_call 10; refine (few_any _ _ _ HL.out).mono ?_; rintro e wn ⟨rfl, rfl⟩)
          | (go_at_call 18; refine (rmap_any _ _ _ HM.out).mono ?_; rintro e wn ⟨rfl, h2⟩; rw [HB.out]; have ha := h2; replace HM := Lib.hid (LIn.keep0 HM.out ha); replace HL := Lib.hid (LIn.keep0 HL.out ha); replace HX := Lib.hid (ha.keep HX.out (by simp)); replace HF := Lib.hid (HF.out.trans ha (by simp)); clear h2 ha)
          | (at_builtin; refine go_stop ?_))
      · go_ret
        exact ⟨rfl, HF.out.below (Nat.le_refl _) (by simp)⟩
      · have SRT := Lib.hid (mapB_srt.1 HB.out)
        have BM : Hid (m.length ≤ 60 ∧ l.length ≤ 60) := Lib.hid ⟨h2, h1⟩
        have BF : Hid ((foldK m l).length ≤ 120) := Lib.hid (by have := foldK_len l m; omega)
        unfold Stop
        have HFM : Hid (Src _ 3 (.slice s1 m.length c1) m.length (allC Kv.cells m)) := Lib.hid (LIn.src (LIn.keep0 HM.out ((Fr.refl [] _).alloc (.cells #[] 44))) Kv.clen (by decide))
        obtain ⟨wz, hwz⟩ : ∃ wz, wz = wn := ⟨_, rfl⟩
        refine wpList_append_src rfl (.tmp 25) (.tmp 26) 33 44 (.agg #[.string ⟨#[]⟩, .string ⟨#[]⟩, .int .i64 0]) 3 40 rfl kv_slice kv_info rfl (by decide) (.slice (some ⟨wn.heap.size, 0, none⟩) 0 0) 0 [] rfl (lies_empty _ _ _ _ rfl) _ m.length (allC Kv.cells m) rfl HFM.out (allC_ones Kv.cone _) (by have := BM.out; unfold maxLen; omega) (by have := BM.out; omega) ?_
        intro vw w3 k1 k2 k3
        have ha : Fr [] wn w3 := ((Fr.refl [] _).alloc _).trans k2 (by intro k hk; simp [Value.ownBlock] at hk; exact Or.inr (by omega))
        have k4 : KvAt w3 vw m := by unfold KvAt LAt; simpa using k1
        have HW := Lib.hid k4.read
        obtain ⟨sw, cw, rfl, _, _⟩ := k4.form
        replace HM := Lib.hid (LIn.keep0 HM.out ha); replace HL := Lib.hid (LIn.keep0 HL.out ha); replace HX := Lib.hid (ha.keep HX.out (by simp)); replace HF := Lib.hid (HF.out.trans ha (by simp)); obtain ⟨b0, b1, _⟩ := cells2 HX.out
        clear k1 k2 k3 k4 ha HFM hwz
        go_wp2_with ((go_at_call 19; refine (event_fold _ _ m l _ (LIn.keep0 HM.out (by first | exact (Fr.refl [] _).drew | exact Fr.refl _ _)) (LIn.keep0 HL.out (by first | exact (Fr.refl [] _).drew | exact Fr.refl _ _)) SRT.out (by have := BM.out; unfold many; omega) (by have := BM.out; unfold many; omega)).mono ?_; rintro e wn ⟨vn, rfl, h1, h2⟩; obtain ⟨sn, cn, rfl, _, _⟩ := h1.form; have ha : Fr [] _ wn := (by first | exact ((Fr.refl [] _).drew).trans h2 (by simp) | exact h2); replace HM := Lib.hid (LIn.keep0 HM.out ha); replace HL := Lib.hid (LIn.keep0 HL.out ha); replace HX := Lib.hid (ha.keep HX.out (by simp)); replace HF := Lib.hid (HF.out.trans ha (by simp)); (try replace HW := Lib.hid (LIn.keep0 HW.out ha)); obtain ⟨b0, b1, _⟩ := cells2 HX.out; have HA := Lib.hid h1; clear h1 h2 ha))
        go_region_held3 (fun w' => w'.cell? ⟨w.heap.size, 0, none⟩ = some (.string f) ∧ w'.cell? ⟨w.heap.size, 1, none⟩ = some (.string t)) (go_keep) (first
          | (go_at_call 21; refine (rfold_any _ _ m l _ (LIn.keep0 HM.out (by first | exact (Fr.refl [] _).drew | exact Fr.refl _ _)) (LIn.keep0 HL.out (by first | exact (Fr.refl [] _).drew | exact Fr.refl _ _)) (by have := BM.out; unfold many; omega) (by have := BM.out; unfold many; omega)).mono ?_; rintro e wn ⟨vn, rfl, h1, h2⟩; obtain ⟨sn, cn, rfl, _, _⟩ := h1.form; have ha : Fr [] _ wn := (by first | exact ((Fr.refl [] _).drew).trans h2 (by simp) | exact h2); replace HM := Lib.hid (LIn.keep0 HM.out ha); replace HL := Lib.hid (LIn.keep0 HL.out ha); replace HX := Lib.hid (ha.keep HX.out (by simp)); replace HF := Lib.hid (HF.out.trans ha (by simp)); (try replace HW := Lib.hid (LIn.keep0 HW.out ha)); (try replace HA := Lib.hid (LIn.keep0 HA.out ha)); (try replace HC := Lib.hid (LIn.keep0 HC.out ha)); (try replace HD := Lib.hid (LIn.keep0 HD.out ha)); (try replace HE := Lib.hid (LIn.keep0 HE.out ha)); obtain ⟨b0, b1, _⟩ := cells2 HX.out; have HC := Lib.hid h1; clear h1 h2 ha)
          | (go_at_call 22; refine (event_restrict _ (foldK m l) f t _ (LIn.keep0 HA.out (by first | exact (Fr.refl [] _).drew | exact Fr.refl _ _)) (by have := BF.out; unfold many; omega)).mono ?_; rintro e wn ⟨vn, rfl, h1, h2⟩; obtain ⟨sn, cn, rfl, _, _⟩ := h1.form; have ha : Fr [] _ wn := (by first | exact ((Fr.refl [] _).drew).trans h2 (by simp) | exact h2); replace HM := Lib.hid (LIn.keep0 HM.out ha); replace HL := Lib.hid (LIn.keep0 HL.out ha); replace HX := Lib.hid (ha.keep HX.out (by simp)); replace HF := Lib.hid (HF.out.trans ha (by simp)); (try replace HW := Lib.hid (LIn.keep0 HW.out ha)); (try replace HA := Lib.hid (LIn.keep0 HA.out ha)); (try replace HC := Lib.hid (LIn.keep0 HC.out ha)); (try replace HD := Lib.hid (LIn.keep0 HD.out ha)); (try replace HE := Lib.hid (LIn.keep0 HE.out ha)); obtain ⟨b0, b1, _⟩ := cells2 HX.out; have HD := Lib.hid h1; clear h1 h2 ha)
          | (go_at_call 23; refine (rrestrict_any _ (foldK m l) f t _ (LIn.keep0 HA.out (by first | exact (Fr.refl [] _).drew | exact Fr.refl _ _)) (by have := BF.out; unfold many; omega)).mono ?_; rintro e wn ⟨vn, rfl, h1, h2⟩; replace h1 := KvAt.read h1; obtain ⟨sn, cn, rfl, _, _⟩ := h1.form; have ha : Fr [] _ wn := (by first | exact ((Fr.refl [] _).drew).trans h2 (by simp) | exact h2); replace HM := Lib.hid (LIn.keep0 HM.out ha); replace HL := Lib.hid (LIn.keep0 HL.out ha); replace HX := Lib.hid (ha.keep HX.out (by simp)); replace HF := Lib.hid (HF.out.trans ha (by simp)); (try replace HW := Lib.hid (LIn.keep0 HW.out ha)); (try replace HA := Lib.hid (LIn.keep0 HA.out ha)); (try replace HC := Lib.hid (LIn.keep0 HC.out ha)); (try replace HD := Lib.hid (LIn.keep0 HD.out ha)); (try replace HE := Lib.hid (LIn.keep0 HE.out ha)); obtain ⟨b0, b1, _⟩ := cells2 HX.out; have HE := Lib.hid h1; clear h1 h2 ha)
          | (go_at_call 20; refine (rkvs_any _ _ _ _ _ (by first | exact LIn.keep0 HA.out (by first | exact (Fr.refl [] _).drew | exact Fr.refl _ _) | exact LIn.keep0 HD.out (by first | exact (Fr.refl [] _).drew | exact Fr.refl _ _) | exact LIn.keep0 HM.out (by first | exact (Fr.refl [] _).drew | exact Fr.refl _ _)) (by first | exact LIn.keep0 HC.out (by first | exact (Fr.refl [] _).drew | exact Fr.refl _ _) | exact LIn.keep0 HE.out (by first | exact (Fr.refl [] _).drew | exact Fr.refl _ _) | exact LIn.keep0 HW.out (by first | exact (Fr.refl [] _).drew | exact Fr.refl _ _))).mono ?_; rintro e wn ⟨rfl, h2⟩; rw [kvs_self]; have ha : Fr [] _ wn := (by first | exact ((Fr.refl [] _).drew).trans h2 (by simp) | exact h2); replace HM := Lib.hid (LIn.keep0 HM.out ha); replace HL := Lib.hid (LIn.keep0 HL.out ha); replace HX := Lib.hid (ha.keep HX.out (by simp)); replace HF := Lib.hid (HF.out.trans ha (by simp)); (try replace HW := Lib.hid (LIn.keep0 HW.out ha)); (try replace HA := Lib.hid (LIn.keep0 HA.out ha)); (try replace HC := Lib.hid (LIn.keep0 HC.out ha)); (try replace HD := Lib.hid (LIn.keep0 HD.out ha)); (try replace HE := Lib.hid (LIn.keep0 HE.out ha)); obtain ⟨b0, b1, _⟩ := cells2 HX.out; clear h2 ha))
        all_goals go_wp2
        all_goals go_ret
        all_goals exact ⟨rfl, HF.out.below (Nat.le_refl _) (by simp)⟩
    · have t2 : decide ((60 : Int) < (m.length : Int)) = true := by simp; omega
      go_enter Try.func4, Try.ntmps4
      go_wp2_with (first
        | (go_at_call 9; refine (event_awake _).mono ?_; rintro e w1 ⟨rfl, h1⟩; have HF := Lib.hid (((Fr.refl [] w).alloc _).trans h1 (by simp)); replace HL := Lib.hid (LIn.keep0 HL.out HF.out); clear h1)
        | (go_at_call 10; refine (few_any _ _ _ HL.out).mono ?_; rintro e wn ⟨rfl, rfl⟩))
      go_ret
      exact ⟨rfl, HF.out.below (Nat.le_refl _) (by simp)⟩
  · go_enter Try.func4, Try.ntmps4
    go_wp2_with (first
      | (go_at_call 9; refine (event_awake _).mono ?_; rintro e w1 ⟨rfl, h1⟩; have HF := Lib.hid (((Fr.refl [] w).alloc _).trans h1 (by simp)); replace HL := Lib.hid (LIn.keep0 HL.out HF.out); clear h1)
      | (go_at_call 10; refine (few_any _ _ _ HL.out).mono ?_; rintro e wn ⟨rfl, rfl⟩))
    go_ret
    exact ⟨rfl, HF.out.below (Nat.le_refl _) (by simp)⟩

set_option maxRecDepth 100000 in
theorem contract (H : Type) (enc : TypeId × Value → H) (W : World) (base : Nat) (args : Array Value) (ds gs : List (DataW H)) (before : List MemPlace)
    (hval0 : ∀ (j : Nat) t v, Try.f4.params[j]? = some t → args[j]? = some v → Value.okWide Try.prog W .any base t v)
    (hW : DataW.Whole enc Try.prog Try.f4.params.toList Rows.eventFoldsSpec.vars false W args.toList ds gs before) :
    Calls Try.prog 4 args W fun e W' => ∃ v, e = .returned v ∧ Rows.eventFoldsSpec.post enc Try.prog Try.f4 false true false false W args v W' := by
  have hval : ∀ (j : Nat) t v, Try.f4.params[j]? = some t → args[j]? = some v → Value.okWide Try.prog W .any base t v := hval0
  have hW' := hW
  obtain ⟨p, q, hA0, hV, rfl, hfz, hnd⟩ := hW
  have hA : DataW.TrodAll enc Try.prog W 0 (fun _ => true) true Try.f4.params.toList args.toList ds p := hA0
  rw [Try.params4] at hA hval
  obtain ⟨v0, vs0, d0, ds0, p0, q0, hargs, rfl, rfl, h0, r0⟩ := trodAll_cons hA
  obtain ⟨v1, vs1, d1, ds1, p1, q1, rfl, rfl, rfl, h1, r1⟩ := trodAll_cons r0
  obtain ⟨v2, vs2, d2, ds2, p2, q2, rfl, rfl, rfl, h2, r2⟩ := trodAll_cons r1
  obtain ⟨rfl, rfl, rfl⟩ := trodAll_nil r2
  obtain rfl : args = #[v0, v1, v2] := by cases args; simp_all
  obtain ⟨rfl, rfl⟩ := trodVars_none hV
  have k0 := h0
  have lt0 : ∀ x ∈ p0, x.block < W.heap.size := by obtain ⟨m, hm⟩ := k0; exact DataW.trod_lt m _ _ _ hm
  have k1 := h1
  have lt1 : ∀ x ∈ p1, x.block < W.heap.size := by obtain ⟨m, hm⟩ := k1; exact DataW.trod_lt m _ _ _ hm
  have k2 := h2
  have lt2 : ∀ x ∈ p2, x.block < W.heap.size := by obtain ⟨m, hm⟩ := k2; exact DataW.trod_lt m _ _ _ hm
  obtain ⟨m, hm⟩ := open_kvs (hval 0 33 v0 rfl rfl) h0
  obtain ⟨l, hl⟩ := open_events (hval 1 22 v1 rfl rfl) h1
  obtain ⟨f, t, rfl, wf, wt⟩ := open_range (hval 2 24 v2 rfl rfl) h2
  clear hA0 hval0 hval
  refine (walk v0 v1 m l f t W hm hl).mono fun e W' ⟨he, bel⟩ => ?_
  subst he
  exact ⟨_, rfl, _, _, _, [], _, [], hW', trodAll_mk1 (shut_bool Try.underlying4 _), (trodAll_cons_mk (Below.trod laid_prog (by kernel_rfl) (of_decide_eq_true (by kernel_rfl)) k0 bel lt0) (trodAll_cons_mk (Below.trod laid_prog (by kernel_rfl) (of_decide_eq_true (by kernel_rfl)) k1 bel lt1) (trodAll_cons_mk (Below.trod laid_prog (by kernel_rfl) (of_decide_eq_true (by kernel_rfl)) k2 bel lt2) trodAll_mk0))), rfl, bel.frame _, fun h => by cases h⟩

set_option maxRecDepth 100000 in
theorem lifted (os : Os) (started : os.Started) (H : Type) (enc : TypeId × Value → H) :
    ReturnsInHanded {} Try.checked os 4 .any (Rows.eventFoldsSpec.pre6 enc Try.prog Try.f4 Rows.eventFoldsRow.domain false) (Rows.eventFoldsSpec.post enc Try.prog Try.f4 false true false false) := by
  refine returnsInHanded_of_change (C := Try.checked) own_prog started (by kernel_rfl) Try.func4
    (ChangeSpec.witness6 (enc := enc) (C := Try.checked) false ⟨#[], #[.slice none 0 0, .slice none 0 0, .agg #[.string ⟨#[]⟩, .string ⟨#[]⟩]], []⟩ 8 (by kernel_rfl) (by kernel_rfl) (by kernel_rfl) (by kernel_rfl)) ?_
  intro W base args ds gs before hval hW _ _
  exact contract H enc W base args ds gs before hval hW

theorem proved : Rows.EventFoldsSaid :=
  OpenClaim.holds_of_wide 4 Try.f4 rfl rfl rfl rfl rfl rfl rfl ⟨rfl, rfl, rfl, rfl, rfl⟩ rfl rfl rfl rfl rfl (by kernel_rfl) Try.func4 (by kernel_rfl)
    (of_decide_eq_true (by kernel_rfl)) (by unfold Func.isWrapper; first | (rw [if_pos (by decide +kernel)]; kernel_rfl) | (rw [if_neg (by decide +kernel)]; exact ⟨rfl, rfl⟩))
    (fun os started H enc _ => lifted os started H enc)

end Go.Proofs.Ytadlccdmbnimaaa.lawEventFolds
