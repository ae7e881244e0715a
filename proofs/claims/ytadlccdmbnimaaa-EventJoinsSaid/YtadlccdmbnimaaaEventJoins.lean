/- Events of two lists are those of both, one behind the other; cut, and put together, they are what they were: for every three lists. No condition. -/
import Derived.Test.YtadlccdmbnimaaaEvLaw2
import Derived.Test.YtadlccdmbnimaaaEvCmp
namespace Go.Proofs.Ytadlccdmbnimaaa.lawEventJoins
open Go.ChangeShapes Go.WideShapes Go.ChangeAt Go.RowKit Go.Deep Go.ChangeMaps
set_option linter.unusedVariables false
set_option linter.unusedSimpArgs false

theorem kvs_self (x : List Kv) : sameB kvB x x = true := (sameB_eq kvB_eq).2 rfl
theorem evs_self (x : List Ev) : sameB evB x x = true := (sameB_eq evB_eq).2 rfl
set_option maxRecDepth 100000 in
set_option maxHeartbeats 4000000 in
theorem walk (mv lv kv : Value) (m : List Kv) (l k : List Ev) (w : World) (hm : KvIn w mv m) (hl : EvIn w lv l) (hk : EvIn w kv k) :
    Calls Try.prog 7 #[mv, lv, kv] w fun e w' => e = .returned (.bool true) ∧ Below w.heap.size w w' := by
  have HM := Lib.hid hm
  have HL := Lib.hid hl
  have HK := Lib.hid hk
  obtain ⟨s1, c1, rfl, _, _⟩ := hm.form
  obtain ⟨s2, c2, rfl, _, _⟩ := hl.form
  obtain ⟨s3, c3, rfl, _, _⟩ := hk.form
  clear hm hl hk
  by_cases h1 : l.length ≤ 60
  · by_cases h0 : k.length ≤ 60
    · by_cases h2 : m.length ≤ 60
      · cases h3 : mapB m
        all_goals
          have HB := Lib.hid h3
          clear h3
          have t2 : decide ((60 : Int) < (m.length : Int)) = false := by simp; omega
          go_enter Try.func7, Try.ntmps7
          go_wp2_with (first
            | (go_at_call 9; refine (event_awake _).mono ?_; rintro e w1 ⟨rfl, h1⟩; have HF := Lib.hid h1; replace HM := Lib.hid (LIn.keep0 HM.out HF.out); replace HL := Lib.hid (LIn.keep0 HL.out HF.out); replace HK := Lib.hid (LIn.keep0 HK.out HF.out); clear h1)
            | (go_at_call 10; refine (few_any _ _ _ (by first | exact HL.out | exact HK.out)).mono ?_; rintro e wn ⟨rfl, rfl⟩)
            | (go_at_call 18; refine (rmap_any _ _ _ HM.out).mono ?_; rintro e wn ⟨rfl, h2⟩; rw [HB.out]; have ha := h2; replace HM := Lib.hid (LIn.keep0 HM.out ha); replace HL := Lib.hid (LIn.keep0 HL.out ha); replace HK := Lib.hid (LIn.keep0 HK.out ha); replace HF := Lib.hid (HF.out.trans ha (by simp)); clear h2 ha)
            | (at_builtin; refine go_stop ?_))
        · go_ret
          exact ⟨rfl, HF.out.below (Nat.le_refl _) (by simp)⟩
        · unfold Stop
          have SRT := Lib.hid (mapB_srt.1 HB.out)
          have BM : Hid (m.length ≤ 60 ∧ l.length ≤ 60 ∧ k.length ≤ 60) := Lib.hid ⟨h2, h1, h0⟩
          have BF : Hid ((foldK m l).length ≤ 120) := Lib.hid (by have := foldK_len l m; omega)
          have HSL : Hid (Src _ 4 (.slice s2 l.length c2) l.length (allC Ev.cells l)) := Lib.hid (LIn.src (LIn.keep0 HL.out ((Fr.refl [] _).alloc (.cells #[] 40))) Ev.clen (by decide))
          refine wpList_append_src rfl (.tmp 32) (.tmp 33) 22 40 (.agg #[.int .i64 0, .string ⟨#[]⟩, .string ⟨#[]⟩, .bool false]) 4 48 rfl ev_slice ev_info rfl (by decide) (.slice (some ⟨wn.heap.size, 0, none⟩) 0 0) 0 [] rfl (lies_empty _ _ _ _ rfl) _ l.length (allC Ev.cells l) rfl HSL.out (allC_ones Ev.cone _) (by unfold maxLen; omega) (by omega) ?_
          intro v1 w3 k1 k2 k3
          have hb1 : ∀ x, v1.ownBlock = some x → wn.heap.size ≤ x := by
            intro x hx
            rcases k3 x hx with h | h
            · simp [Value.ownBlock] at h; omega
            · simp at h; omega
          have f1 : Fr [] wn w3 := ((Fr.refl [] _).alloc _).trans k2 (by intro x hx; simp [Value.ownBlock] at hx; exact Or.inr (by omega))
          have e1 : EvAt w3 v1 l := by unfold EvAt LAt; simpa using k1
          have HE1 := Lib.hid e1
          have HF1 := Lib.hid (And.intro f1 hb1)
          clear k1 k2 k3 f1 hb1 e1 HSL
          go_wp2_with (at_builtin; refine go_stop ?_)
          unfold Stop
          refine wpList_append_src rfl (.tmp 34) (.tmp 35) 22 40 (.agg #[.int .i64 0, .string ⟨#[]⟩, .string ⟨#[]⟩, .bool false]) 4 48 rfl ev_slice ev_info rfl (by decide) v1 l.length (allC Ev.cells l) rfl HE1.out _ k.length (allC Ev.cells k) rfl (LIn.src (LIn.keep0 HK.out HF1.out.1) Ev.clen (by decide)) (allC_ones Ev.cone _) (by unfold maxLen; omega) (by omega) ?_
          intro v2 w4 k1 k2 k3
          have ha : Fr [] wn w4 := HF1.out.1.trans k2 (by intro x hx; exact Or.inr (HF1.out.2 x (by simpa using hx)))
          obtain ⟨A, hA⟩ : ∃ A, A = l ++ k := ⟨_, rfl⟩
          have e2 : EvAt w4 v2 A := by rw [hA]; unfold EvAt LAt; rw [allC_app, List.length_append]; exact k1
          have hAl : A.length ≤ 120 := by rw [hA, List.length_append]; omega
          have HX := Lib.hid e2.read
          have HAL := Lib.hid hAl
          have HAE := Lib.hid hA
          obtain ⟨s4, c4, rfl, _, _⟩ := e2.form
          replace HM := Lib.hid (LIn.keep0 HM.out ha); replace HL := Lib.hid (LIn.keep0 HL.out ha); replace HK := Lib.hid (LIn.keep0 HK.out ha); replace HF := Lib.hid (HF.out.trans ha (by simp))
          have BL : Hid ((cutE A).length ≤ 120) := Lib.hid (by have := cut_len A; omega)
          clear k1 k2 k3 e2 ha hA hAl HE1 HF1
          go_wp2_with ((go_at_call 11; refine (event_cut _ A _ (LIn.keep0 HX.out (by first | exact (Fr.refl [] _).drew | exact Fr.refl _ _)) (by have := HAL.out; unfold many; omega)).mono ?_; rintro e wn ⟨vn, rfl, h1, h2⟩; obtain ⟨sn, cn, rfl, _, _⟩ := h1.form; have ha : Fr [] _ wn := (by first | exact ((Fr.refl [] _).drew).trans h2 (by simp) | exact h2); replace HM := Lib.hid (LIn.keep0 HM.out ha); replace HL := Lib.hid (LIn.keep0 HL.out ha); replace HK := Lib.hid (LIn.keep0 HK.out ha); replace HF := Lib.hid (HF.out.trans ha (by simp)); (try replace HX := Lib.hid (LIn.keep0 HX.out ha)); have HP := Lib.hid h1; clear h1 h2 ha; refine go_stop ?_))
          unfold Stop
          obtain ⟨wq, hwq⟩ : ∃ wq, wq = wn := ⟨_, rfl⟩
          go_wp2_with fail
          rw [← hwq]
          go_loopw [10, 11] (fun v i wr => ∃ (j : Nat) (o : List Ev), i = .int .i64 j ∧ j ≤ (cutE A).length ∧ OutAt Ev.cells 40 4 wq wr v o ∧ o = ((cutE A).take j).flatten ∧ Fr [] wq wr) (fun _ i _ => (cutE A).length - (intOf i).toNat)
          case atStart => exact ⟨0, [], rfl, Nat.zero_le _, OutAt.nil _ _, by simp, Fr.refl _ _⟩
          case round =>
            obtain ⟨j, o, rfl, hj, ho, hs, hf⟩ := hrel
            have HO := Lib.hid ho
            have HS := Lib.hid hs
            have HF0 := Lib.hid hf
            rw [hwq] at hf
            have HF2 := Lib.hid hf
            clear ho hs hf
            have hbl := BL.out
            by_cases h : j < (cutE A).length
            · obtain ⟨r, hr⟩ : ∃ r, (cutE A)[j]? = some r := ⟨_, List.getElem?_eq_getElem h⟩
              have hlen : Hid (o.length + r.length ≤ 120) := Lib.hid (by
                have h1 := congrArg List.length (cut_flat A)
                have h2 : (cutE A).take (j + 1) = (cutE A).take j ++ [r] := take_snoc hr
                have h3 : ((cutE A).take (j + 1)).flatten.length ≤ (cutE A).flatten.length := by
                  conv => rhs; rw [← List.take_append_drop (j + 1) (cutE A)]
                  rw [List.flatten_append, List.length_append]; omega
                have h4 := HAL.out
                rw [h2, List.flatten_append, List.length_append, ← HS.out] at h3
                simp only [List.flatten_cons, List.flatten_nil, List.append_nil] at h3
                omega)
              obtain ⟨g1, o1, d1, e1, _, k1⟩ := RowsIn.here (RowsIn.keep0 HP.out HF2.out) (by omega)
              cases e1
              obtain ⟨u1, p1, hu1⟩ := k1 j r hr
              have hne := cut_ne A r (List.mem_of_getElem? hr)
              have HST : Hid (((cutE A).take (j + 1)).flatten = o ++ r) := Lib.hid (by rw [take_snoc hr, List.flatten_append, ← HS.out]; simp)
              have HU1 := Lib.hid hu1
              obtain ⟨s5, c5, rfl, _, _⟩ := hu1.form
              have t3 : ((r.length : Int) == 0) = false := by
                have : r.length ≠ 0 := fun e => hne (List.eq_nil_of_length_eq_zero e)
                simp; exact hne
              have t1 : decide (j < (cutE A).length) = true := by simpa using h
              clear hr k1 hu1
              go_wp2_with (at_builtin; refine go_stop ?_)
              unfold Stop
              refine wpList_append_src rfl (.tmp 51) (.tmp 55) 22 40 (.agg #[.int .i64 0, .string ⟨#[]⟩, .string ⟨#[]⟩, .bool false]) 4 48 rfl ev_slice ev_info rfl (by decide) u10 o.length (allC Ev.cells o) rfl HO.out.lies _ r.length (allC Ev.cells r) rfl (LIn.src HU1.out Ev.clen (by decide)) (allC_ones Ev.cone _) (by have := hlen.out; unfold maxLen; omega) (by have := hlen.out; omega) ?_
              intro v5 w5 k1 k2 k3
              have HA2 := Lib.hid (OutAt.app HO.out HF0.out.size (xs := r) k1 rfl k3)
              have HG2 := Lib.hid (OutAt.fr HO.out HF0.out k2)
              clear k1 k2 k3
              go_wp2_with fail
              go_roundw
              case rel => exact ⟨j + 1, o ++ r, by go_num, by omega, HA2.out, HST.out.symm, HG2.out⟩
              case measure => simp [intOf]; omega
            · have t1 : decide (j < (cutE A).length) = false := by simpa using h
              have HO2 : Hid (EvIn wr u10 A) := Lib.hid (by
                have h1 := HS.out
                rw [List.take_of_length_le (by omega), cut_flat] at h1
                rw [← h1]; exact LAt.read HO.out.lies Ev.clen)
              obtain ⟨s6, c6, rfl, _, _⟩ := HO2.out.form
              have ha := HF2.out
              replace HM := Lib.hid (LIn.keep0 HM.out ha); replace HL := Lib.hid (LIn.keep0 HL.out ha); replace HK := Lib.hid (LIn.keep0 HK.out ha); replace HF := Lib.hid (HF.out.trans ha (by simp)); (try replace HX := Lib.hid (LIn.keep0 HX.out ha))
              clear ha HP HO HS HF0 HF2
              have HD := HO2
              clear HO2
              go_wp2_with ((go_at_call 19; refine (event_fold _ _ m A _ (LIn.keep0 HM.out (by first | exact (Fr.refl [] _).drew | exact Fr.refl _ _)) (LIn.keep0 HX.out (by first | exact (Fr.refl [] _).drew | exact Fr.refl _ _)) SRT.out (by have := BM.out; unfold many; omega) (by have := HAL.out; unfold many; omega)).mono ?_; rintro e wn ⟨vn, rfl, h1, h2⟩; obtain ⟨sn, cn, rfl, _, _⟩ := h1.form; have ha : Fr [] _ wn := (by first | exact ((Fr.refl [] _).drew).trans h2 (by simp) | exact h2); replace HM := Lib.hid (LIn.keep0 HM.out ha); replace HL := Lib.hid (LIn.keep0 HL.out ha); replace HK := Lib.hid (LIn.keep0 HK.out ha); replace HF := Lib.hid (HF.out.trans ha (by simp)); (try replace HX := Lib.hid (LIn.keep0 HX.out ha)); (try replace HD := Lib.hid (LIn.keep0 HD.out ha)); have HA := Lib.hid h1; clear h1 h2 ha; refine go_stop ?_))
              unfold Stop
              go_wp2_with ((go_at_call 19; refine (event_fold _ _ m l _ (LIn.keep0 HM.out (by first | exact (Fr.refl [] _).drew | exact Fr.refl _ _)) (LIn.keep0 HL.out (by first | exact (Fr.refl [] _).drew | exact Fr.refl _ _)) SRT.out (by have := BM.out; unfold many; omega) (by have := BM.out; unfold many; omega)).mono ?_; rintro e wn ⟨vn, rfl, h1, h2⟩; obtain ⟨sn, cn, rfl, _, _⟩ := h1.form; have ha : Fr [] _ wn := (by first | exact ((Fr.refl [] _).drew).trans h2 (by simp) | exact h2); replace HM := Lib.hid (LIn.keep0 HM.out ha); replace HL := Lib.hid (LIn.keep0 HL.out ha); replace HK := Lib.hid (LIn.keep0 HK.out ha); replace HF := Lib.hid (HF.out.trans ha (by simp)); (try replace HX := Lib.hid (LIn.keep0 HX.out ha)); (try replace HD := Lib.hid (LIn.keep0 HD.out ha)); (try replace HA := Lib.hid (LIn.keep0 HA.out ha)); have HB1 := Lib.hid h1; clear h1 h2 ha; refine go_stop ?_))
              unfold Stop
              have HEQ : Hid (foldK m A = foldK (foldK m l) k) := Lib.hid (by rw [HAE.out, foldK_app])
              go_wp2_with (first
                | (go_at_call 19; refine (event_fold _ _ (foldK m l) k _ (LIn.keep0 HB1.out (by first | exact (Fr.refl [] _).drew | exact Fr.refl _ _)) (LIn.keep0 HK.out (by first | exact (Fr.refl [] _).drew | exact Fr.refl _ _)) (srt_foldK SRT.out) (by have := BF.out; unfold many; omega) (by have := BM.out; unfold many; omega)).mono ?_; rintro e wn ⟨vn, rfl, h1, h2⟩; rw [← HEQ.out] at h1; obtain ⟨sn, cn, rfl, _, _⟩ := h1.form; have ha : Fr [] _ wn := (by first | exact ((Fr.refl [] _).drew).trans h2 (by simp) | exact h2); replace HM := Lib.hid (LIn.keep0 HM.out ha); replace HL := Lib.hid (LIn.keep0 HL.out ha); replace HK := Lib.hid (LIn.keep0 HK.out ha); replace HF := Lib.hid (HF.out.trans ha (by simp)); (try replace HX := Lib.hid (LIn.keep0 HX.out ha)); (try replace HD := Lib.hid (LIn.keep0 HD.out ha)); (try replace HA := Lib.hid (LIn.keep0 HA.out ha)); have HC := Lib.hid h1; clear h1 h2 ha)
                | (go_at_call 20; refine (rkvs_any _ _ _ _ _ (LIn.keep0 HA.out (by first | exact (Fr.refl [] _).drew | exact Fr.refl _ _)) (LIn.keep0 HC.out (by first | exact (Fr.refl [] _).drew | exact Fr.refl _ _))).mono ?_; rintro e wn ⟨rfl, h2⟩; rw [kvs_self]; have ha : Fr [] _ wn := (by first | exact ((Fr.refl [] _).drew).trans h2 (by simp) | exact h2); replace HM := Lib.hid (LIn.keep0 HM.out ha); replace HL := Lib.hid (LIn.keep0 HL.out ha); replace HK := Lib.hid (LIn.keep0 HK.out ha); replace HF := Lib.hid (HF.out.trans ha (by simp)); (try replace HX := Lib.hid (LIn.keep0 HX.out ha)); (try replace HD := Lib.hid (LIn.keep0 HD.out ha)); clear h2 ha)
                | (go_at_call 13; refine (revents_any _ _ _ _ _ (LIn.keep0 HD.out (by first | exact (Fr.refl [] _).drew | exact Fr.refl _ _)) (LIn.keep0 HX.out (by first | exact (Fr.refl [] _).drew | exact Fr.refl _ _))).mono ?_; rintro e wn ⟨rfl, h2⟩; rw [evs_self]; have ha : Fr [] _ wn := (by first | exact ((Fr.refl [] _).drew).trans h2 (by simp) | exact h2); replace HM := Lib.hid (LIn.keep0 HM.out ha); replace HL := Lib.hid (LIn.keep0 HL.out ha); replace HK := Lib.hid (LIn.keep0 HK.out ha); replace HF := Lib.hid (HF.out.trans ha (by simp)); (try replace HX := Lib.hid (LIn.keep0 HX.out ha)); (try replace HD := Lib.hid (LIn.keep0 HD.out ha)); clear h2 ha))
              go_ret
              exact ⟨rfl, HF.out.below (Nat.le_refl _) (by simp)⟩
      · have t2 : decide ((60 : Int) < (m.length : Int)) = true := by simp; omega
        go_enter Try.func7, Try.ntmps7
        go_wp2_with (first
          | (go_at_call 9; refine (event_awake _).mono ?_; rintro e w1 ⟨rfl, h1⟩; have HF := Lib.hid h1; replace HL := Lib.hid (LIn.keep0 HL.out HF.out); replace HK := Lib.hid (LIn.keep0 HK.out HF.out); clear h1)
          | (go_at_call 10; refine (few_any _ _ _ (by first | exact HL.out | exact HK.out)).mono ?_; rintro e wn ⟨rfl, rfl⟩))
        go_ret
        exact ⟨rfl, HF.out.below (Nat.le_refl _) (by simp)⟩
    · go_enter Try.func7, Try.ntmps7
      go_wp2_with (first
        | (go_at_call 9; refine (event_awake _).mono ?_; rintro e w1 ⟨rfl, h1⟩; have HF := Lib.hid h1; replace HL := Lib.hid (LIn.keep0 HL.out HF.out); replace HK := Lib.hid (LIn.keep0 HK.out HF.out); clear h1)
        | (go_at_call 10; refine (few_any _ _ _ (by first | exact HL.out | exact HK.out)).mono ?_; rintro e wn ⟨rfl, rfl⟩))
      go_ret
      exact ⟨rfl, HF.out.below (Nat.le_refl _) (by simp)⟩
  · go_enter Try.func7, Try.ntmps7
    go_wp2_with (first
      | (go_at_call 9; refine (event_awake _).mono ?_; rintro e w1 ⟨rfl, h1⟩; have HF := Lib.hid h1; replace HL := Lib.hid (LIn.keep0 HL.out HF.out); replace HK := Lib.hid (LIn.keep0 HK.out HF.out); clear h1)
      | (go_at_call 10; refine (few_any _ _ _ (by first | exact HL.out | exact HK.out)).mono ?_; rintro e wn ⟨rfl, rfl⟩))
    go_ret
    exact ⟨rfl, HF.out.below (Nat.le_refl _) (by simp)⟩

set_option maxRecDepth 100000 in
theorem contract (H : Type) (enc : TypeId × Value → H) (W : World) (base : Nat) (args : Array Value) (ds gs : List (DataW H)) (before : List MemPlace)
    (hval0 : ∀ (j : Nat) t v, Try.f7.params[j]? = some t → args[j]? = some v → Value.okWide Try.prog W .any base t v)
    (hW : DataW.Whole enc Try.prog Try.f7.params.toList Rows.eventJoinsSpec.vars false W args.toList ds gs before) :
    Calls Try.prog 7 args W fun e W' => ∃ v, e = .returned v ∧ Rows.eventJoinsSpec.post enc Try.prog Try.f7 false true false false W args v W' := by
  have hval : ∀ (j : Nat) t v, Try.f7.params[j]? = some t → args[j]? = some v → Value.okWide Try.prog W .any base t v := hval0
  have hW' := hW
  obtain ⟨p, q, hA0, hV, rfl, hfz, hnd⟩ := hW
  have hA : DataW.TrodAll enc Try.prog W 0 (fun _ => true) true Try.f7.params.toList args.toList ds p := hA0
  rw [Try.params7] at hA hval
  obtain ⟨v0, vs0, d0, ds0, p0, q0, hargs, rfl, rfl, h0, r0⟩ := trodAll_cons hA
  obtain ⟨v1, vs1, d1, ds1, p1, q1, rfl, rfl, rfl, h1, r1⟩ := trodAll_cons r0
  obtain ⟨v2, vs2, d2, ds2, p2, q2, rfl, rfl, rfl, h2, r2⟩ := trodAll_cons r1
  obtain ⟨rfl, rfl, rfl⟩ := trodAll_nil r2
  obtain rfl : args = #[v0, v1, v2] := by cases args; simp_all
  obtain ⟨rfl, rfl⟩ := trodVars_none hV
  have k0 := h0
  have lt0 : ∀ x ∈ p0, x.block < W.heap.size := by obtain ⟨m, hm⟩ := k0; exact DataW.trod_lt m _ _ _ hm
  have k1 := h1
  have lt1 : ∀ x ∈ p1, x.block < W.heap.size := by obtain ⟨m, hm⟩ := k1; exact DataW.trod_lt m _ _ _ hm
  have k2 := h2
  have lt2 : ∀ x ∈ p2, x.block < W.heap.size := by obtain ⟨m, hm⟩ := k2; exact DataW.trod_lt m _ _ _ hm
  obtain ⟨m, hm⟩ := open_kvs (hval 0 33 v0 rfl rfl) h0
  obtain ⟨l, hl⟩ := open_events (hval 1 22 v1 rfl rfl) h1
  obtain ⟨k, hk⟩ := open_events (hval 2 22 v2 rfl rfl) h2
  clear hA0 hval0 hval
  refine (walk v0 v1 v2 m l k W hm hl hk).mono fun e W' ⟨he, bel⟩ => ?_
  subst he
  exact ⟨_, rfl, _, _, _, [], _, [], hW', trodAll_mk1 (shut_bool Try.underlying4 _), (trodAll_cons_mk (Below.trod laid_prog (by kernel_rfl) (of_decide_eq_true (by kernel_rfl)) k0 bel lt0) (trodAll_cons_mk (Below.trod laid_prog (by kernel_rfl) (of_decide_eq_true (by kernel_rfl)) k1 bel lt1) (trodAll_cons_mk (Below.trod laid_prog (by kernel_rfl) (of_decide_eq_true (by kernel_rfl)) k2 bel lt2) trodAll_mk0))), rfl, bel.frame _, fun h => by cases h⟩

set_option maxRecDepth 100000 in
theorem lifted (os : Os) (started : os.Started) (H : Type) (enc : TypeId × Value → H) :
    ReturnsInHanded {} Try.checked os 7 .any (Rows.eventJoinsSpec.pre6 enc Try.prog Try.f7 Rows.eventJoinsRow.domain false) (Rows.eventJoinsSpec.post enc Try.prog Try.f7 false true false false) := by
  refine returnsInHanded_of_change (C := Try.checked) own_prog started (by kernel_rfl) Try.func7
    (ChangeSpec.witness6 (enc := enc) (C := Try.checked) false ⟨#[], #[.slice none 0 0, .slice none 0 0, .slice none 0 0], []⟩ 8 (by kernel_rfl) (by kernel_rfl) (by kernel_rfl) (by kernel_rfl)) ?_
  intro W base args ds gs before hval hW _ _
  exact contract H enc W base args ds gs before hval hW

theorem proved : Rows.EventJoinsSaid :=
  OpenClaim.holds_of_wide 7 Try.f7 rfl rfl rfl rfl rfl rfl rfl ⟨rfl, rfl, rfl, rfl, rfl⟩ rfl rfl rfl rfl rfl (by kernel_rfl) Try.func7 (by kernel_rfl)
    (of_decide_eq_true (by kernel_rfl)) (by unfold Func.isWrapper; first | (rw [if_pos (by decide +kernel)]; kernel_rfl) | (rw [if_neg (by decide +kernel)]; exact ⟨rfl, rfl⟩))
    (fun os started H enc _ => lifted os started H enc)

end Go.Proofs.Ytadlccdmbnimaaa.lawEventJoins
