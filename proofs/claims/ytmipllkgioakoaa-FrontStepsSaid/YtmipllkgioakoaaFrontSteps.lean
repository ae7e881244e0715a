/- An entry is one more; a revision is, if it has events; the horizon doesn't fall; with an error nothing but the entry: for every request, every list of keys' values and every head. No condition. -/
import Derived.Test.YtmipllkgioakoaaFrLaw
namespace Go.Proofs.Ytmipllkgioakoaa.lawFrontSteps
open Go.ChangeShapes Go.WideShapes Go.ChangeAt Go.RowKit Go.Deep Go.ChangeMaps
set_option linter.unusedVariables false
set_option linter.unusedSimpArgs false

set_option maxRecDepth 100000 in
set_option maxHeartbeats 4000000 in
theorem walk (q : Rq) (cv tv ev mv : Value) (m : List Kv) (s r h : Int) (w : World) (hq : RqIn w q cv tv ev) (hm : KvIn w mv m) (whd : IsI s ∧ IsI r ∧ IsI h) :
    Calls Try.prog 4 #[.agg #[.int .i64 q.kind, .string q.f, .string q.t, .int .i64 q.rev, cv, tv, ev], mv, .agg #[.int .i64 s, .int .i64 r, .int .i64 h]] w fun e w' => e = .returned (.bool true) ∧ Below w.heap.size w w' := by
  obtain ⟨s1, c1, rfl, la1, ma1⟩ := LIn.form hq.c
  obtain ⟨s2, c2, rfl, la2, ma2⟩ := LIn.form hq.t
  obtain ⟨s3, c3, rfl, la3, ma3⟩ := LIn.form hq.e
  obtain ⟨sm, cm, rfl, lam, mam⟩ := LIn.form hm
  unfold maxLen at ma1 ma2 ma3 mam
  have HM := Lib.hid hm
  have HQ := Lib.hid hq
  have HIS := Lib.hid whd
  clear hm hq whd
  have hgo : (decide ((60 : Int) < (m.length : Int)) = false ∧ m.length ≤ 60) ∨ decide ((60 : Int) < (m.length : Int)) = true := by
    by_cases h : m.length ≤ 60
    · exact Or.inl ⟨by simp; omega, h⟩
    · exact Or.inr (by simp; omega)
  obtain ⟨w0, hw0⟩ : ∃ w0, w0 = (w.alloc (.cells #[.int .i64 q.kind, .string q.f, .string q.t, .int .i64 q.rev, .slice s1 q.cmps.length c1, .slice s2 q.thn.length c2, .slice s3 q.els.length c3] 27)).alloc (.cells #[.int .i64 s, .int .i64 r, .int .i64 h] 30) := ⟨_, rfl⟩
  have h0 := two_new w (.cells #[.int .i64 q.kind, .string q.f, .string q.t, .int .i64 q.rev, .slice s1 q.cmps.length c1, .slice s2 q.thn.length c2, .slice s3 q.els.length c3] 27) (.cells #[.int .i64 s, .int .i64 r, .int .i64 h] 30)
  rw [← hw0] at h0
  have HW0 := Lib.hid hw0
  have HBQ := Lib.hid h0.1
  have HBH := Lib.hid h0.2.1
  have HF0 := Lib.hid h0.2.2.1
  have HZ0 := Lib.hid h0.2.2.2
  clear h0 hw0
  obtain ⟨fb, hfb⟩ : ∃ fb, fb = (decide (q.cmps.length ≤ 20) && decide (q.thn.length ≤ 20) && decide (q.els.length ≤ 20)) := ⟨_, rfl⟩
  have HFEW : Hid (∀ X, Fr [] w X → Calls Try.prog 7 #[.agg #[.int .i64 q.kind, .string q.f, .string q.t, .int .i64 q.rev, .slice s1 q.cmps.length c1, .slice s2 q.thn.length c2, .slice s3 q.els.length c3]] X fun e w' => e = .returned (.bool fb) ∧ Fr [] X w') := Lib.hid (fun X hX => by rw [hfb]; exact ffew_any q _ _ _ X (HQ.out.keep0 hX))
  have HMAP : Hid (∀ X, Fr [] w X → Calls Try.prog 8 #[.slice sm m.length cm] X fun e w' => e = .returned (.bool (mapB m)) ∧ Fr [] X w') := Lib.hid (fun X hX => rmap_any _ m X (LIn.keep0 HM.out hX))
  obtain ⟨mb, hmb⟩ : ∃ mb, mb = mapB m := ⟨_, rfl⟩
  rw [← hmb] at HMAP
  have HFB := Lib.hid hfb
  have HMBB : Hid (mb = mapB m) := Lib.hid hmb
  clear hfb hmb
  have his := HIS.out
  unfold IsI at his
  have hbd : (decide ((1099511627776 : Int) < r) = false ∧ decide ((1099511627776 : Int) < h) = false ∧ decide (h < (-1099511627776 : Int)) = false ∧ decide ((1099511627776 : Int) < s) = false ∧ r ≤ 1099511627776 ∧ h ≤ 1099511627776 ∧ -1099511627776 ≤ h ∧ s ≤ 1099511627776) ∨ (decide ((1099511627776 : Int) < r) = true) ∨ (decide ((1099511627776 : Int) < r) = false ∧ decide ((1099511627776 : Int) < h) = true) ∨ (decide ((1099511627776 : Int) < r) = false ∧ decide ((1099511627776 : Int) < h) = false ∧ decide (h < (-1099511627776 : Int)) = true) ∨ (decide ((1099511627776 : Int) < r) = false ∧ decide ((1099511627776 : Int) < h) = false ∧ decide (h < (-1099511627776 : Int)) = false ∧ decide ((1099511627776 : Int) < s) = true) := by
    simp only [decide_eq_false_iff_not, decide_eq_true_eq]; omega
  clear his
  go_enter Try.func4, Try.ntmps4
  go_wp2_with (go_at_call 6; rw [← HW0.out]; refine (fr_awake _).mono ?_; rintro e w1 ⟨rfl, hf⟩; refine go_stop ?_)
  unfold Stop
  have HF1 := Lib.hid (HF0.out.trans hf (by simp))
  have HQ1 := Lib.hid (hf.keep HBQ.out (by simp))
  have HH1 := Lib.hid (hf.keep HBH.out (by simp))
  have HZ1 : Hid (w.heap.size + 2 ≤ w1.heap.size) := Lib.hid (by have := hf.size; have := HZ0.out; omega)
  clear hf HBQ HBH
  obtain ⟨b0, b1, b2, b3, b4, b5, b6, _⟩ := cells7 HQ1.out
  obtain ⟨g0, g1, g2, _⟩ := cells3 HH1.out
  go_wp2_with (go_at_call 7; refine (HFEW.out _ HF1.out).mono ?_; rintro e w2 ⟨rfl, hf⟩; refine go_stop ?_)
  unfold Stop
  have HF2 := Lib.hid (HF1.out.trans hf (by simp))
  have HQ2 := Lib.hid (hf.keep HQ1.out (by simp))
  have HH2 := Lib.hid (hf.keep HH1.out (by simp))
  have HZ2 : Hid (w.heap.size + 2 ≤ w2.heap.size) := Lib.hid (Nat.le_trans HZ1.out hf.size)
  clear hf HQ1 HH1 b0 b1 b2 b3 b4 b5 b6 g0 g1 g2 HFEW
  cases fb
  · go_wp2
    go_ret
    exact ⟨rfl, HF2.out.below (Nat.le_refl _) (by simp)⟩
  rcases hgo with ⟨t1, h60⟩ | t1
  rotate_left
  · go_wp2
    go_ret
    exact ⟨rfl, HF2.out.below (Nat.le_refl _) (by simp)⟩
  go_wp2_with (go_at_call 8; refine (HMAP.out _ HF2.out).mono ?_; rintro e w3 ⟨rfl, hf⟩; refine go_stop ?_)
  unfold Stop
  have HF3 := Lib.hid (HF2.out.trans hf (by simp))
  have HQ3 := Lib.hid (hf.keep HQ2.out (by simp))
  have HH3 := Lib.hid (hf.keep HH2.out (by simp))
  have HZ3 : Hid (w.heap.size + 2 ≤ w3.heap.size) := Lib.hid (Nat.le_trans HZ2.out hf.size)
  clear hf HQ2 HH2 HMAP
  obtain ⟨b0, b1, b2, b3, b4, b5, b6, _⟩ := cells7 HQ3.out
  obtain ⟨g0, g1, g2, _⟩ := cells3 HH3.out
  have hfew : q.cmps.length ≤ 20 ∧ q.thn.length ≤ 20 ∧ q.els.length ≤ 20 := by
    have := HFB.out
    simp only [Bool.true_eq, Bool.and_eq_true, decide_eq_true_eq] at this
    exact ⟨this.1.1, this.1.2, this.2⟩
  obtain ⟨f1, f2, f3⟩ := hfew
  cases mb
  · go_wp2
    go_ret
    exact ⟨rfl, HF3.out.below (Nat.le_refl _) (by simp)⟩
  rcases hbd with ⟨t5, t6, t7, t8, y5, y6, y7, y8⟩ | t5 | ⟨t5, t6⟩ | ⟨t5, t6, t7⟩ | ⟨t5, t6, t7, t8⟩
  rotate_left
  iterate 4
    · go_wp2_with fail
      go_ret
      exact ⟨rfl, HF3.out.below (Nat.le_refl _) (by simp)⟩
  have HSRT := Lib.hid (mapB_srt.1 HMBB.out.symm)
  have HDF := Lib.hid (decP_facts q m r h)
  have HDEC : Hid (∀ X, Fr [] w X → Calls Try.prog 12 #[.agg #[.int .i64 q.kind, .string q.f, .string q.t, .int .i64 q.rev, .slice s1 q.cmps.length c1, .slice s2 q.thn.length c2, .slice s3 q.els.length c3], .slice sm m.length cm, .agg #[.int .i64 s, .int .i64 r, .int .i64 h]] X fun e w' => ∃ v, e = .returned ((decP q m r h).val v) ∧ EvIn w' v (decP q m r h).rows ∧ Fr [] X w') := Lib.hid (fun X hX => by
    refine (fr_decide q _ _ _ _ m s r h X (LIn.keep0 HM.out hX) HSRT.out (HQ.out.keep0 hX) (by unfold many; omega) (by unfold many; omega) (by omega) (by omega)).mono ?_
    rintro e w' ⟨v, rfl, k1, _, k2⟩
    exact ⟨v, rfl, k1, k2⟩)
  obtain ⟨P, hP⟩ : ∃ P, decP q m r h = P := ⟨_, rfl⟩
  rw [hP] at HDEC HDF
  clear hP
  obtain ⟨ok, L, er, ho⟩ := P
  unfold Pl.val at HDEC
  dsimp only at HDEC HDF
  go_wp2_with (go_at_call 12; refine (HDEC.out _ HF3.out).mono ?_; rintro e w4 ⟨v4, rfl, hl, hf⟩; obtain ⟨s9, c9, rfl, _, ma9⟩ := LIn.form hl; refine go_stop ?_)
  unfold Stop
  have hal := (Fr.refl [] w4).alloc (.cells #[.bool ok, .slice s9 L.length c9, .int .i64 er, .int .i64 ho] 45)
  have HP5 := Lib.hid (new_block w4 (.cells #[.bool ok, .slice s9 L.length c9, .int .i64 er, .int .i64 ho] 45))
  have HF5 := Lib.hid (HF3.out.trans (hf.trans hal (by simp)) (by simp))
  have HQ5 := Lib.hid ((hf.trans hal (by simp)).keep HQ3.out (by simp))
  have HH5 := Lib.hid ((hf.trans hal (by simp)).keep HH3.out (by simp))
  have HL5 := Lib.hid (LIn.keep0 hl hal)
  have HZ5 : Hid (w.heap.size + 2 ≤ w4.heap.size) := Lib.hid (Nat.le_trans HZ3.out hf.size)
  clear hf hal hl HQ3 HH3 HDEC b0 b1 b2 b3 b4 b5 b6 g0 g1 g2
  obtain ⟨S1, hS1⟩ : ∃ x, wrap64 (s + 1) = x := ⟨_, rfl⟩
  obtain ⟨R2, hR2⟩ : ∃ x, wrap64 (r + 1) = x := ⟨_, rfl⟩
  obtain ⟨H1, hH1⟩ : ∃ x, max h ho = x := ⟨_, rfl⟩
  obtain ⟨R1, hR1⟩ : ∃ x, stR r L.length = x := ⟨_, rfl⟩
  have hll := HDF.out.len
  dsimp only at hll
  have HSTP : Hid (∀ X, Calls Try.prog 13 #[.agg #[.int .i64 s, .int .i64 r, .int .i64 h], .agg #[.bool ok, .slice s9 L.length c9, .int .i64 er, .int .i64 ho]] X fun e w' => e = .returned (.agg #[.int .i64 S1, .int .i64 R1, .int .i64 H1]) ∧ Fr [] X w') := Lib.hid (fun X => by
    rw [← hS1, ← hR1, ← hH1]; exact fr_step s r h ok s9 L.length c9 er ho (by omega) X)
  have HRR : Hid (r ≠ R2) := Lib.hid (by
    have his := HIS.out
    unfold IsI at his
    rw [fw64 (by omega) (by omega)] at hR2
    omega)
  have HR1 : Hid ((L.length = 0 → R1 = r) ∧ (L.length ≠ 0 → R1 = R2)) := Lib.hid ⟨fun h => by rw [← hR1]; unfold stR; rw [if_pos h], fun h => by rw [← hR1, ← hR2]; unfold stR; rw [if_neg h]⟩
  have HREV : Hid (∀ (i : Nat) (e : Ev), L[i]? = some e → e.rev = R2) := Lib.hid (fun i e he => by rw [← hR2]; exact HDF.out.rev i e he)
  have HQT : Hid (er ≠ 0 → L = [] ∧ ok = false ∧ ho = 0) := Lib.hid (fun h => HDF.out.quiet h)
  have u1 : decide (h ≤ H1) = true := by rw [← hH1]; simp; omega
  clear hH1 hR1 HDF
  obtain ⟨p0, p1, p2, p3, _⟩ := cells4 HP5.out
  obtain ⟨g0, g1, g2, _⟩ := cells3 HH5.out
  go_wp2_with (go_at_call 13; refine (HSTP.out _).mono ?_; rintro e w6 ⟨rfl, hf⟩; refine go_stop ?_)
  unfold Stop
  have hal := (Fr.refl [] w6).alloc (.cells #[.int .i64 S1, .int .i64 R1, .int .i64 H1] 30)
  have HX7 := Lib.hid (new_block w6 (.cells #[.int .i64 S1, .int .i64 R1, .int .i64 H1] 30))
  have HF7 := Lib.hid (HF5.out.trans (hf.trans hal (by simp)) (by simp))
  have HP7 := Lib.hid ((hf.trans hal (by simp)).keep HP5.out (by simp))
  have HH7 := Lib.hid ((hf.trans hal (by simp)).keep HH5.out (by simp))
  have HL7 := Lib.hid (LIn.keep0 HL5.out (hf.trans hal (by simp)))
  have n1 : ¬ w4.heap.size = w6.heap.size := fun e => by have h9 := lt_of_block (hf.keep HP5.out (by simp)); omega
  clear hf hal HP5 HH5 HL5 HSTP p0 p1 p2 p3 g0 g1 g2
  go_upto_region 6 with fail
  generalize w6.alloc (.cells #[.int .i64 S1, .int .i64 R1, .int .i64 H1] 30) = wz at *
  generalize w6.heap.size = bx at *
  generalize w4.heap.size = bp at *
  go_wp2_with fail
  go_loopw [10] (fun i wr => ∃ (j : Nat), i = .int .i64 j ∧ j ≤ L.length ∧ Fr [] wz wr) (fun i _ => L.length - (intOf i).toNat)
  case atStart => exact ⟨0, rfl, Nat.zero_le _, Fr.refl _ _⟩
  case round =>
    obtain ⟨j, rfl, hj, hf⟩ := hrel
    have HFR := Lib.hid hf
    clear hf
    obtain ⟨p0, p1, p2, p3, _⟩ := cells4 (HFR.out.keep HP7.out (by simp))
    obtain ⟨g0, g1, g2, _⟩ := cells3 (HFR.out.keep HH7.out (by simp))
    obtain ⟨x0, x1, x2, _⟩ := cells3 (HFR.out.keep HX7.out (by simp))
    by_cases hlt : j < L.length
    · obtain ⟨e, he⟩ : ∃ e, L[j]? = some e := ⟨_, List.getElem?_eq_getElem hlt⟩
      obtain ⟨g, off, d1, e1, hg, _, k1⟩ := EvIn.here (LIn.keep0 HL7.out HFR.out) (by omega)
      cases e1
      obtain ⟨v0, v1, v2, v3⟩ := k1 j e he
      rw [HREV.out j e he] at v0
      have t2 : decide (j < L.length) = true := by simpa using hlt
      have t3 : (j : Int) < (L.length : Int) := by omega
      clear he k1 v1 v2 v3
      go_wp2_with fail
      go_quiet (fail)
      go_wp2_with fail
      go_roundw
      case rel => exact ⟨j + 1, by go_num, by omega, HFR.out.drewN _⟩
      case measure => simp [intOf]; omega
    · have t2 : decide (j < L.length) = false := by simpa using hlt
      have HFZ := Lib.hid (HF7.out.trans HFR.out (by simp))
      have hcs : (L.length = 0 ∧ R1 = r ∧ er = 0) ∨ (L.length = 0 ∧ R1 = r ∧ (er == 0) = false ∧ ok = false ∧ ho = 0) ∨ (0 < L.length ∧ R1 = R2 ∧ er = 0) := by
        by_cases a1 : er = 0
        · by_cases a2 : L.length = 0
          · exact Or.inl ⟨a2, HR1.out.1 a2, a1⟩
          · exact Or.inr (Or.inr ⟨by omega, HR1.out.2 a2, a1⟩)
        · obtain ⟨b1, b2, b3⟩ := HQT.out a1
          have a2 : L.length = 0 := by rw [b1]; rfl
          exact Or.inr (Or.inl ⟨a2, HR1.out.1 a2, by simpa using a1, b2, b3⟩)
      have q1 : (r == R2) = false := by simpa using HRR.out
      have q2 : (R2 == r) = false := by simpa using HRR.out.symm
      clear HRR HR1 HQT HREV hj hlt hll HIS
      rcases hcs with ⟨a1, rfl, rfl⟩ | ⟨a1, rfl, a3, rfl, rfl⟩ | ⟨a1, rfl, rfl⟩
      · obtain rfl := List.eq_nil_of_length_eq_zero a1
        go_wp2_with fail
        go_ret
        exact ⟨rfl, HFZ.out.below (Nat.le_refl _) (by simp)⟩
      · obtain rfl := List.eq_nil_of_length_eq_zero a1
        go_wp2_with fail
        go_ret
        exact ⟨rfl, HFZ.out.below (Nat.le_refl _) (by simp)⟩
      · have q3 : ((L.length : Int) == 0) = false := beq_eq_false_iff_ne.2 (by omega)
        have q4 : decide (0 < L.length) = true := by simpa using a1
        go_wp2_with fail
        go_ret
        exact ⟨rfl, HFZ.out.below (Nat.le_refl _) (by simp)⟩

set_option maxRecDepth 100000 in
theorem contract (H : Type) (enc : TypeId × Value → H) (W : World) (base : Nat) (args : Array Value) (ds gs : List (DataW H)) (before : List MemPlace)
    (hval0 : ∀ (j : Nat) t v, Try.f4.params[j]? = some t → args[j]? = some v → Value.okWide Try.prog W .any base t v)
    (hW : DataW.Whole enc Try.prog Try.f4.params.toList Rows.frontStepsSpec.vars false W args.toList ds gs before) :
    Calls Try.prog 4 args W fun e W' => ∃ v, e = .returned v ∧ Rows.frontStepsSpec.post enc Try.prog Try.f4 false true false false W args v W' := by
  have hval : ∀ (j : Nat) t v, Try.f4.params[j]? = some t → args[j]? = some v → Value.okWide Try.prog W .any base t v := hval0
  have hW' := hW
  obtain ⟨p, q, hA0, hV, rfl, hfz, hnd⟩ := hW
  have hA : DataW.TrodAll enc Try.prog W 0 (fun _ => true) true Try.f4.params.toList args.toList ds p := hA0
  rw [Try.params4] at hA hval
  obtain ⟨v0, vs0, d0, ds0, p0, q0, hargs, rfl, rfl, h0, r0⟩ := trodAll_cons hA
  obtain ⟨v1, vs1, d1, ds1, p1, q1, rfl, rfl, rfl, h1, r1⟩ := trodAll_cons r0
  obtain ⟨v2, vs2, d2, ds2, p2, q2, rfl, rfl, rfl, h2, r2⟩ := trodAll_cons r1
  obtain ⟨rfl, rfl, rfl⟩ := trodAll_nil r2
  obtain rfl : args = #[v0, v1, v2] := by cases args; simp_all
  obtain ⟨rfl, rfl⟩ := trodVars_none hV
  have k0 := h0
  have lt0 : ∀ x ∈ p0, x.block < W.heap.size := by obtain ⟨m, hm⟩ := k0; exact DataW.trod_lt m _ _ _ hm
  have k1 := h1
  have lt1 : ∀ x ∈ p1, x.block < W.heap.size := by obtain ⟨m, hm⟩ := k1; exact DataW.trod_lt m _ _ _ hm
  have k2 := h2
  have lt2 : ∀ x ∈ p2, x.block < W.heap.size := by obtain ⟨m, hm⟩ := k2; exact DataW.trod_lt m _ _ _ hm
  obtain ⟨q, cv, tv, ev, rfl, hq⟩ := open_req (hval 0 27 v0 rfl rfl) h0
  obtain ⟨m, hm⟩ := open_kvs (hval 1 28 v1 rfl rfl) h1
  obtain ⟨s, r, h, rfl, whd⟩ := open_fhd (hval 2 30 v2 rfl rfl) h2
  clear hA0 hval0 hval
  refine (walk q cv tv ev v1 m s r h W hq hm whd).mono fun e W' ⟨he, bel⟩ => ?_
  subst he
  exact ⟨_, rfl, _, _, _, [], _, [], hW', trodAll_mk1 (shut_bool Try.underlying4 _), (trodAll_cons_mk (Below.trod laid_prog (by kernel_rfl) (of_decide_eq_true (by kernel_rfl)) k0 bel lt0) (trodAll_cons_mk (Below.trod laid_prog (by kernel_rfl) (of_decide_eq_true (by kernel_rfl)) k1 bel lt1) (trodAll_cons_mk (Below.trod laid_prog (by kernel_rfl) (of_decide_eq_true (by kernel_rfl)) k2 bel lt2) trodAll_mk0))), rfl, bel.frame _, fun h => by cases h⟩

set_option maxRecDepth 100000 in
theorem lifted (os : Os) (started : os.Started) (H : Type) (enc : TypeId × Value → H) :
    ReturnsInHanded {} Try.checked os 4 .any (Rows.frontStepsSpec.pre6 enc Try.prog Try.f4 Rows.frontStepsRow.domain false) (Rows.frontStepsSpec.post enc Try.prog Try.f4 false true false false) := by
  refine returnsInHanded_of_change (C := Try.checked) own_prog started (by kernel_rfl) Try.func4
    (ChangeSpec.witness6 (enc := enc) (C := Try.checked) false ⟨#[], #[.agg #[.int .i64 0, .string ⟨#[]⟩, .string ⟨#[]⟩, .int .i64 0, .slice none 0 0, .slice none 0 0, .slice none 0 0], .slice none 0 0, .agg #[.int .i64 0, .int .i64 0, .int .i64 0]], []⟩ 8 (by kernel_rfl) (by kernel_rfl) (by kernel_rfl) (by kernel_rfl)) ?_
  intro W base args ds gs before hval hW _ _
  exact contract H enc W base args ds gs before hval hW

theorem proved : Rows.FrontStepsSaid :=
  OpenClaim.holds_of_wide 4 Try.f4 rfl rfl rfl rfl rfl rfl rfl ⟨rfl, rfl, rfl, rfl, rfl⟩ rfl rfl rfl rfl rfl (by kernel_rfl) Try.func4 (by kernel_rfl)
    (of_decide_eq_true (by kernel_rfl)) (by unfold Func.isWrapper; first | (rw [if_pos (by decide +kernel)]; kernel_rfl) | (rw [if_neg (by decide +kernel)]; exact ⟨rfl, rfl⟩))
    (fun os started H enc _ => lifted os started H enc)

end Go.Proofs.Ytmipllkgioakoaa.lawFrontSteps
