/- A read is at the revision that is wanted, or the last one, not below the horizon nor above the last one; else it is told why not: for every request, every list of keys' values and every head. No condition. -/
import Derived.Test.YtmipllkgioakoaaFrLaw
namespace Go.Proofs.Ytmipllkgioakoaa.lawFrontReads
open Go.ChangeShapes Go.WideShapes Go.ChangeAt Go.RowKit Go.Deep Go.ChangeMaps
set_option linter.unusedVariables false
set_option linter.unusedSimpArgs false

set_option maxRecDepth 100000 in
set_option maxHeartbeats 4000000 in
theorem walk (q : Rq) (cv tv ev mv : Value) (m : List Kv) (s r h : Int) (w : World) (hq : RqIn w q cv tv ev) (hm : KvIn w mv m) (whd : IsI s ∧ IsI r ∧ IsI h) :
    Calls Try.prog 5 #[.agg #[.int .i64 q.kind, .string q.f, .string q.t, .int .i64 q.rev, cv, tv, ev], mv, .agg #[.int .i64 s, .int .i64 r, .int .i64 h]] w fun e w' => e = .returned (.bool true) ∧ Below w.heap.size w w' := by
  obtain ⟨s1, c1, rfl, la1, ma1⟩ := LIn.form hq.c
  obtain ⟨s2, c2, rfl, la2, ma2⟩ := LIn.form hq.t
  obtain ⟨s3, c3, rfl, la3, ma3⟩ := LIn.form hq.e
  obtain ⟨sm, cm, rfl, lam, mam⟩ := LIn.form hm
  unfold maxLen at ma1 ma2 ma3 mam
  have HM := Lib.hid hm
  have HQ := Lib.hid hq
  have HIS := Lib.hid whd
  clear hm hq whd
  have hgo : (decide ((60 : Int) < (m.length : Int)) = false ∧ m.length ≤ 60) ∨ decide ((60 : Int) < (m.length : Int)) = true := by
    by_cases h : m.length ≤ 60
    · exact Or.inl ⟨by simp; omega, h⟩
    · exact Or.inr (by simp; omega)
  obtain ⟨w0, hw0⟩ : ∃ w0, w0 = (w.alloc (.cells #[.int .i64 q.kind, .string q.f, .string q.t, .int .i64 q.rev, .slice s1 q.cmps.length c1, .slice s2 q.thn.length c2, .slice s3 q.els.length c3] 27)).alloc (.cells #[.int .i64 s, .int .i64 r, .int .i64 h] 30) := ⟨_, rfl⟩
  have h0 := two_new w (.cells #[.int .i64 q.kind, .string q.f, .string q.t, .int .i64 q.rev, .slice s1 q.cmps.length c1, .slice s2 q.thn.length c2, .slice s3 q.els.length c3] 27) (.cells #[.int .i64 s, .int .i64 r, .int .i64 h] 30)
  rw [← hw0] at h0
  have HW0 := Lib.hid hw0
  have HBQ := Lib.hid h0.1
  have HBH := Lib.hid h0.2.1
  have HF0 := Lib.hid h0.2.2.1
  have HZ0 := Lib.hid h0.2.2.2
  clear h0 hw0
  have HAT : Hid (∀ X, Calls Try.prog 14 #[.agg #[.int .i64 q.kind, .string q.f, .string q.t, .int .i64 q.rev, .slice s1 q.cmps.length c1, .slice s2 q.thn.length c2, .slice s3 q.els.length c3], .agg #[.int .i64 s, .int .i64 r, .int .i64 h]] X fun e w' => e = .returned (.tuple #[.int .i64 (frV q.rev r h), .int .i64 (frE q.rev r h)]) ∧ Fr [] X w') := Lib.hid (fun X => fr_at q s1 s2 s3 _ _ _ c1 c2 c3 s r h X)
  have HRD : m.length ≤ 60 → Hid (∀ X, Fr [] w X → Calls Try.prog 15 #[.agg #[.int .i64 q.kind, .string q.f, .string q.t, .int .i64 q.rev, .slice s1 q.cmps.length c1, .slice s2 q.thn.length c2, .slice s3 q.els.length c3], .slice sm m.length cm, .agg #[.int .i64 s, .int .i64 r, .int .i64 h]] X fun e w' => ∃ s9 c9, e = .returned (.agg #[.int .i64 s, .int .i64 r, .int .i64 h, .int .i64 (frE q.rev r h), .bool false, .slice s9 (frL q.rev r h m).length c9]) ∧ KvIn w' (.slice s9 (frL q.rev r h m).length c9) (frL q.rev r h m) ∧ Fr [] X w') := fun h60 => Lib.hid (fun X hX => by
    refine (fr_read q s1 s2 s3 _ _ _ c1 c2 c3 _ m s r h X (LIn.keep0 HM.out hX) (by unfold many; omega)).mono ?_
    rintro e w' ⟨v, rfl, k1, _, k2⟩
    obtain ⟨s9, c9, rfl, _, _⟩ := LIn.form k1
    exact ⟨s9, c9, rfl, k1, k2⟩)
  have HE := Lib.hid (frE_cases q.rev r h)
  have HRV : Hid (q.rev ≠ 0 → frR q.rev r = q.rev) := Lib.hid (fun hz => by unfold frR; rw [if_neg hz])
  have HR0 : Hid (q.rev = 0 → frR q.rev r = r) := Lib.hid (fun hz => by unfold frR; rw [if_pos hz])
  have HLL : Hid ((frE q.rev r h = 0 → frL q.rev r h m = m) ∧ (frE q.rev r h ≠ 0 → frL q.rev r h m = [])) := Lib.hid ⟨fun h => by unfold frL; rw [if_pos h], fun h => by unfold frL; rw [if_neg h]⟩
  obtain ⟨E, hE⟩ : ∃ E, frE q.rev r h = E := ⟨_, rfl⟩
  obtain ⟨V, hV⟩ : ∃ V, frV q.rev r h = V := ⟨_, rfl⟩
  obtain ⟨L, hL⟩ : ∃ L, frL q.rev r h m = L := ⟨_, rfl⟩
  obtain ⟨R, hR⟩ : ∃ R, frR q.rev r = R := ⟨_, rfl⟩
  rw [hE, hV] at HAT
  rw [hE, hL] at HRD
  rw [hE, hV, hR] at HE
  rw [hE, hL] at HLL
  rw [hR] at HRV HR0
  clear hE hV hL hR
  go_enter Try.func5, Try.ntmps5
  go_wp2_with (go_at_call 6; rw [← HW0.out]; refine (fr_awake _).mono ?_; rintro e w1 ⟨rfl, hf⟩; refine go_stop ?_)
  unfold Stop
  have HF1 := Lib.hid (HF0.out.trans hf (by simp))
  have HQ1 := Lib.hid (hf.keep HBQ.out (by simp))
  have HH1 := Lib.hid (hf.keep HBH.out (by simp))
  have HZ1 : Hid (w.heap.size + 2 ≤ w1.heap.size) := Lib.hid (by have := hf.size; have := HZ0.out; omega)
  clear hf HBQ HBH
  obtain ⟨b0, b1, b2, b3, b4, b5, b6, _⟩ := cells7 HQ1.out
  obtain ⟨g0, g1, g2, _⟩ := cells3 HH1.out
  rcases hgo with ⟨t1, h60⟩ | t1
  · replace HRD := HRD h60
    go_wp2_with (go_at_call 14; refine (HAT.out _).mono ?_; rintro e w2 ⟨rfl, hf⟩; refine go_stop ?_)
    unfold Stop
    have HF2 := Lib.hid (HF1.out.trans hf (by simp))
    have HQ2 := Lib.hid (hf.keep HQ1.out (by simp))
    have HH2 := Lib.hid (hf.keep HH1.out (by simp))
    have HZ2 : Hid (w.heap.size + 2 ≤ w2.heap.size) := Lib.hid (Nat.le_trans HZ1.out hf.size)
    clear hf HQ1 HH1 b0 b1 b2 b3 b4 b5 b6 g0 g1 g2
    obtain ⟨b0, b1, b2, b3, b4, b5, b6, _⟩ := cells7 HQ2.out
    obtain ⟨g0, g1, g2, _⟩ := cells3 HH2.out
    go_wp2_with (go_at_call 15; refine (HRD.out _ HF2.out).mono ?_; rintro e w3 ⟨s9, c9, rfl, hl, hf⟩; refine go_stop ?_)
    unfold Stop
    have hal := (Fr.refl [] w3).alloc (.cells #[.int .i64 s, .int .i64 r, .int .i64 h, .int .i64 E, .bool false, .slice s9 L.length c9] 54)
    have HR4 := Lib.hid (new_block w3 (.cells #[.int .i64 s, .int .i64 r, .int .i64 h, .int .i64 E, .bool false, .slice s9 L.length c9] 54))
    have HF4 := Lib.hid (HF2.out.trans (hf.trans hal (by simp)) (by simp))
    have HQ4 := Lib.hid ((hf.trans hal (by simp)).keep HQ2.out (by simp))
    have HH4 := Lib.hid ((hf.trans hal (by simp)).keep HH2.out (by simp))
    have HL4 := Lib.hid (LIn.keep0 hl hal)
    clear hf hal hl HQ2 HH2 b0 b1 b2 b3 b4 b5 b6 g0 g1 g2 HAT HRD
    rcases HE.out with ⟨k1, rfl, rfl⟩ | ⟨k1, k2, rfl, rfl⟩ | ⟨k1, k2, rfl, hv⟩
    · have hL := HLL.out.2 (by decide)
      subst hL
      clear k1 HE HLL HRV HR0
      go_upto_region 6 with fail
      generalize w3.alloc (.cells #[.int .i64 s, .int .i64 r, .int .i64 h, .int .i64 5, .bool false, .slice s9 ([] : List Kv).length c9] 54) = wz at *
      generalize w3.heap.size = bz at *
      obtain ⟨z0, z1, z2, z3, z4, z5, _⟩ := cells6 HR4.out
      obtain ⟨b0, b1, b2, b3, b4, b5, b6, _⟩ := cells7 HQ4.out
      obtain ⟨g0, g1, g2, _⟩ := cells3 HH4.out
      go_wp2_with fail
      go_ret
      exact ⟨rfl, HF4.out.below (Nat.le_refl _) (by simp)⟩
    · have hL := HLL.out.2 (by decide)
      subst hL
      clear k1 HE HLL HRV HR0
      go_upto_region 6 with fail
      generalize w3.alloc (.cells #[.int .i64 s, .int .i64 r, .int .i64 h, .int .i64 6, .bool false, .slice s9 ([] : List Kv).length c9] 54) = wz at *
      generalize w3.heap.size = bz at *
      obtain ⟨z0, z1, z2, z3, z4, z5, _⟩ := cells6 HR4.out
      obtain ⟨b0, b1, b2, b3, b4, b5, b6, _⟩ := cells7 HQ4.out
      obtain ⟨g0, g1, g2, _⟩ := cells3 HH4.out
      go_wp2_with fail
      go_ret
      exact ⟨rfl, HF4.out.below (Nat.le_refl _) (by simp)⟩
    · have hL := (HLL.out.1 rfl).symm
      subst hL
      obtain rfl := hv.symm
      go_upto_region 6 with fail
      generalize w3.alloc (.cells #[.int .i64 s, .int .i64 r, .int .i64 h, .int .i64 0, .bool false, .slice s9 m.length c9] 54) = wz at *
      generalize w3.heap.size = bz at *
      have t2 : decide (h ≤ R) = true := by simp; omega
      have t3 : decide (R ≤ r) = true := by simp; omega
      have HKV : Hid (∀ X, Fr [] wz X → Calls Try.prog 16 #[.slice s9 m.length c9, .slice sm m.length cm] X fun e w' => e = .returned (.bool true) ∧ Fr [] X w') := Lib.hid fun X hX => by
        refine (rkvs_any _ _ m m X (LIn.keep0 HL4.out hX) (LIn.keep0 HM.out (HF4.out.trans hX (by simp)))).mono ?_
        rintro e w' ⟨rfl, hf⟩
        exact ⟨by rw [(sameB_eq kvB_eq).2 rfl], hf⟩
      obtain ⟨z0, z1, z2, z3, z4, z5, _⟩ := cells6 HR4.out
      obtain ⟨b0, b1, b2, b3, b4, b5, b6, _⟩ := cells7 HQ4.out
      obtain ⟨g0, g1, g2, _⟩ := cells3 HH4.out
      have hz : (R == q.rev) = true ∨ ((R == q.rev) = false ∧ (q.rev == 0) = true ∧ (R == r) = true) := by
        by_cases e1 : R = q.rev
        · exact Or.inl (by simpa using e1)
        · by_cases e2 : q.rev = 0
          · exact Or.inr ⟨by simpa using e1, by simpa using e2, by simpa using HR0.out e2⟩
          · exact absurd (HRV.out e2) e1
      clear k1 k2 hv HE HLL HRV HR0
      rcases hz with t4 | ⟨t4, t5, t6⟩
      all_goals
        go_wp2_with (go_at_call 16; refine (HKV.out _ (Fr.refl _ _)).mono ?_; rintro e w5 ⟨rfl, hf⟩; refine go_stop ?_)
        unfold Stop
        have HF5 := Lib.hid (HF4.out.trans hf (by simp))
        have HR5 := Lib.hid (hf.keep HR4.out (by simp))
        have HH5 := Lib.hid (hf.keep HH4.out (by simp))
        clear hf z0 z1 z2 z3 z4 z5 g0 g1 g2
        obtain ⟨z0, z1, z2, z3, z4, z5, _⟩ := cells6 HR5.out
        obtain ⟨g0, g1, g2, _⟩ := cells3 HH5.out
        go_wp2_with fail
        go_ret
        exact ⟨rfl, HF5.out.below (Nat.le_refl _) (by simp)⟩
  · go_wp2_with fail
    go_ret
    exact ⟨rfl, HF1.out.below (Nat.le_refl _) (by simp)⟩

set_option maxRecDepth 100000 in
theorem contract (H : Type) (enc : TypeId × Value → H) (W : World) (base : Nat) (args : Array Value) (ds gs : List (DataW H)) (before : List MemPlace)
    (hval0 : ∀ (j : Nat) t v, Try.f5.params[j]? = some t → args[j]? = some v → Value.okWide Try.prog W .any base t v)
    (hW : DataW.Whole enc Try.prog Try.f5.params.toList Rows.frontReadsSpec.vars false W args.toList ds gs before) :
    Calls Try.prog 5 args W fun e W' => ∃ v, e = .returned v ∧ Rows.frontReadsSpec.post enc Try.prog Try.f5 false true false false W args v W' := by
  have hval : ∀ (j : Nat) t v, Try.f5.params[j]? = some t → args[j]? = some v → Value.okWide Try.prog W .any base t v := hval0
  have hW' := hW
  obtain ⟨p, q, hA0, hV, rfl, hfz, hnd⟩ := hW
  have hA : DataW.TrodAll enc Try.prog W 0 (fun _ => true) true Try.f5.params.toList args.toList ds p := hA0
  rw [Try.params5] at hA hval
  obtain ⟨v0, vs0, d0, ds0, p0, q0, hargs, rfl, rfl, h0, r0⟩ := trodAll_cons hA
  obtain ⟨v1, vs1, d1, ds1, p1, q1, rfl, rfl, rfl, h1, r1⟩ := trodAll_cons r0
  obtain ⟨v2, vs2, d2, ds2, p2, q2, rfl, rfl, rfl, h2, r2⟩ := trodAll_cons r1
  obtain ⟨rfl, rfl, rfl⟩ := trodAll_nil r2
  obtain rfl : args = #[v0, v1, v2] := by cases args; simp_all
  obtain ⟨rfl, rfl⟩ := trodVars_none hV
  have k0 := h0
  have lt0 : ∀ x ∈ p0, x.block < W.heap.size := by obtain ⟨m, hm⟩ := k0; exact DataW.trod_lt m _ _ _ hm
  have k1 := h1
  have lt1 : ∀ x ∈ p1, x.block < W.heap.size := by obtain ⟨m, hm⟩ := k1; exact DataW.trod_lt m _ _ _ hm
  have k2 := h2
  have lt2 : ∀ x ∈ p2, x.block < W.heap.size := by obtain ⟨m, hm⟩ := k2; exact DataW.trod_lt m _ _ _ hm
  obtain ⟨q, cv, tv, ev, rfl, hq⟩ := open_req (hval 0 27 v0 rfl rfl) h0
  obtain ⟨m, hm⟩ := open_kvs (hval 1 28 v1 rfl rfl) h1
  obtain ⟨s, r, h, rfl, whd⟩ := open_fhd (hval 2 30 v2 rfl rfl) h2
  clear hA0 hval0 hval
  refine (walk q cv tv ev v1 m s r h W hq hm whd).mono fun e W' ⟨he, bel⟩ => ?_
  subst he
  exact ⟨_, rfl, _, _, _, [], _, [], hW', trodAll_mk1 (shut_bool Try.underlying4 _), (trodAll_cons_mk (Below.trod laid_prog (by kernel_rfl) (of_decide_eq_true (by kernel_rfl)) k0 bel lt0) (trodAll_cons_mk (Below.trod laid_prog (by kernel_rfl) (of_decide_eq_true (by kernel_rfl)) k1 bel lt1) (trodAll_cons_mk (Below.trod laid_prog (by kernel_rfl) (of_decide_eq_true (by kernel_rfl)) k2 bel lt2) trodAll_mk0))), rfl, bel.frame _, fun h => by cases h⟩

set_option maxRecDepth 100000 in
theorem lifted (os : Os) (started : os.Started) (H : Type) (enc : TypeId × Value → H) :
    ReturnsInHanded {} Try.checked os 5 .any (Rows.frontReadsSpec.pre6 enc Try.prog Try.f5 Rows.frontReadsRow.domain false) (Rows.frontReadsSpec.post enc Try.prog Try.f5 false true false false) := by
  refine returnsInHanded_of_change (C := Try.checked) own_prog started (by kernel_rfl) Try.func5
    (ChangeSpec.witness6 (enc := enc) (C := Try.checked) false ⟨#[], #[.agg #[.int .i64 0, .string ⟨#[]⟩, .string ⟨#[]⟩, .int .i64 0, .slice none 0 0, .slice none 0 0, .slice none 0 0], .slice none 0 0, .agg #[.int .i64 0, .int .i64 0, .int .i64 0]], []⟩ 8 (by kernel_rfl) (by kernel_rfl) (by kernel_rfl) (by kernel_rfl)) ?_
  intro W base args ds gs before hval hW _ _
  exact contract H enc W base args ds gs before hval hW

theorem proved : Rows.FrontReadsSaid :=
  OpenClaim.holds_of_wide 5 Try.f5 rfl rfl rfl rfl rfl rfl rfl ⟨rfl, rfl, rfl, rfl, rfl⟩ rfl rfl rfl rfl rfl (by kernel_rfl) Try.func5 (by kernel_rfl)
    (of_decide_eq_true (by kernel_rfl)) (by unfold Func.isWrapper; first | (rw [if_pos (by decide +kernel)]; kernel_rfl) | (rw [if_neg (by decide +kernel)]; exact ⟨rfl, rfl⟩))
    (fun os started H enc _ => lifted os started H enc)

end Go.Proofs.Ytmipllkgioakoaa.lawFrontReads
