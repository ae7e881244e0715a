/- Whatever watches come and go: each answer, all that there are, and which any key stabs: for every list of deeds, every key and revision. No condition. -/
import Derived.Test.YtcieokfjkfpajaaSiStab
import Derived.Test.YtcieokfjkfpajaaSiAwake
import Derived.Test.YtcieokfjkfpajaaSiLaw
import Derived.Deep.DeepCutAuto
namespace Go.Proofs.Ytcieokfjkfpajaa.lawSubidxPlays
open Go.ChangeShapes Go.WideShapes Go.ChangeAt Go.RowKit Go.Deep Go.ChangeMaps
set_option linter.unusedVariables false
set_option linter.unusedSimpArgs false

set_option maxRecDepth 100000 in
set_option maxHeartbeats 8000000 in
theorem walk (lv : Value) (l : List Sd) (k : ByteArray) (rev : Int) (w : World) (hl : SdIn w lv l) :
    Calls Try.prog 3 #[lv, .string k, .int .i64 rev] w fun e w' => e = .returned (.bool true) ∧ Below w.heap.size w w' := by
  obtain ⟨sl, cl, rfl, lc, mc⟩ := hl.1.form
  unfold maxLen at mc
  have HL := Lib.hid hl
  have HAW := Lib.hid fun W => si_awake W
  have HN := Lib.hid fun W => ix_new W
  have HM := Lib.hid fun s W => si_made s W
  clear hl
  go_enter Try.func3, Try.ntmps3
  go_wp2_with (go_at_call 9; refine (HAW.out _).mono ?_; rintro e w0 ⟨rfl, hf⟩; refine go_stop ?_)
  have HF0 := Lib.hid hf
  clear hf HAW
  unfold Stop
  go_wp2_with (go_at_call 10; refine (HN.out _).mono ?_; rintro e w1 ⟨p, S0, rfl, hx, hf, hge⟩; refine go_stop ?_)
  have HX := Lib.hid hx
  have HF := Lib.hid (HF0.out.trans hf (by simp))
  have HGE : Hid (∀ k ∈ S0, w.heap.size ≤ k) := Lib.hid (fun k hk => Nat.le_trans HF0.out.size (hge k hk))
  clear hx hf hge HN HF0
  unfold Stop
  go_wp2_with fail
  go_loopw [9, 10] (fun lv2 iv wr => ∃ (j : Nat) (S : List Nat), iv = .int .i64 j ∧ j ≤ l.length ∧ j ≤ 60 ∧ LFar S Sb.cells 4 wr lv2 (runL (l.take j)) ∧ Ix wr p S j (runL (l.take j)) ∧ (∀ k ∈ S, w.heap.size ≤ k) ∧ Fr [] w wr) (fun _ i _ => 60 - (intOf i).toNat)
  case atStart => exact ⟨0, S0, rfl, Nat.zero_le _, by omega, LFar.nil _ _, HX.out, HGE.out, HF.out⟩
  case round =>
    obtain ⟨j, S, rfl, hj, hj2, hlf, hx, hge, hf⟩ := hrel
    have HLF := Lib.hid hlf
    have HX2 := Lib.hid hx
    have HGE2 := Lib.hid hge
    have HF2 := Lib.hid hf
    clear hx hge hf
    by_cases h : j < l.length
    · have t1 : decide (j < l.length) = true := by simpa using h
      by_cases h60 : j < 60
      · have t2 : decide (j < 60) = true := by simpa using h60
        have t3 : decide ((j : Int) < 60) = true := by simp; omega
        obtain ⟨d, hd⟩ : ∃ d, l[j]? = some d := ⟨_, List.getElem?_eq_getElem h⟩
        obtain ⟨g, off, d1, e1, hg, l1, k1⟩ := SdIn.here (HL.out) (by omega)
        simp only [Value.slice.injEq] at e1
        obtain ⟨rfl, _, rfl⟩ := e1
        obtain ⟨q0, q1, q2, q3, q4⟩ := (k1 j d hd).keep HF2.out (by simp)
        have HTK := Lib.hid (take_snoc hd)
        have HRS := Lib.hid (run_snoc (l.take j) d)
        obtain ⟨s4, c4, rfl, _⟩ := hlf.form
        have HD := Lib.hid (si_do HX2.out (by omega) _ HLF.out d (HL.out.2 d (List.mem_of_getElem? hd)))
        rw [← HTK.out] at HRS
        rw [← HRS.out] at HD
        unfold Sd.val at HD
        generalize (runL (l.take j)).length = m at *
        obtain ⟨L3, hL3⟩ : ∃ L3, L3 = runL (l.take (j + 1)) := ⟨_, rfl⟩
        rw [← hL3] at HD
        have HLE := Lib.hid hL3
        clear k1 hg hd hlf hL3 HRS
        go_wp2_with (go_at_call 11; refine HD.out.mono ?_; rintro e w3 ⟨v3, S3, rfl, hl3, hx3, hf3, hg3⟩; refine go_stop ?_)
        have HL3 := Lib.hid hl3
        have HX3 := Lib.hid hx3
        have HF3 := Lib.hid (HF2.out.trans hf3 (fun k hk => Or.inr (HGE2.out k hk)))
        have HG3 := Lib.hid (Grow.ge hg3 HF2.out.size HGE2.out)
        obtain ⟨s3, c3, rfl, _⟩ := hl3.form
        have hlen3 : L3.length ≤ 60 := by have := hx3.len; omega
        have HND := Lib.hid hx3.nodup
        have CALL := Lib.hid fun W (hW : Fr [] w3 W) => ix_all (hx3.keep0 hW) (by omega)
        have CST := Lib.hid fun W (hW : Fr [] w3 W) => ix_stab (hx3.keep0 hW) (by omega) k rev
        have CRS := Lib.hid fun W (hW : Fr [] w3 W) => rsi_stab _ L3 k rev W (hl3.lin.keep0 hW) (by omega)
        rw [stabR_eq HND.out] at CRS
        obtain ⟨O, hO⟩ : ∃ O, O = stabS k.toList rev L3 := ⟨_, rfl⟩
        have hol : O.length ≤ 100000 := by
          rw [hO]
          unfold stabS sortI
          rw [(List.mergeSort_perm _ _).length_eq, List.length_map]
          exact Nat.le_trans (List.length_filter_le _ _) (by omega)
        have HOL := Lib.hid hol
        rw [← hO] at CST CRS
        clear hl3 hx3 hf3 hg3 q0 q1 q2 q3 q4 hO hol HD
        unfold Stop
        go_wp2_with (go_at_call 12; refine (CALL.out _ (Fr.refl [] w3)).mono ?_; rintro e w4 ⟨v4, rfl, ho, hf⟩; refine go_stop ?_)
        have HR4 : Hid (SbIn w4 v4 L3) := Lib.hid (LAt.read ho.lies Sb.clen)
        have HZ4 := Lib.hid hf
        obtain ⟨s5, c5, hv5, _⟩ := ho.lies.form
        subst hv5
        clear ho hf CALL
        unfold Stop
        go_wp2_with (go_at_call 14; refine (CST.out _ HZ4.out).mono ?_; rintro e w5 ⟨v6, rfl, ho, hf⟩; refine go_stop ?_)
        have HI5 := Lib.hid (out_in ho)
        have HR5 : Hid (SbIn w5 (.slice s5 L3.length c5) L3) := Lib.hid (LIn.keep0 HR4.out hf)
        have HZ5 := Lib.hid (HZ4.out.trans hf (by simp))
        obtain ⟨s6, c6, hv6, _⟩ := ho.lies.form
        subst hv6
        clear ho hf CST
        unfold Stop
        go_wp2_with (go_at_call 15; refine (CRS.out _ HZ5.out).mono ?_; rintro e w6 ⟨v7, rfl, ho, hf⟩; refine go_stop ?_)
        have HI6 := Lib.hid (out_in ho)
        have HI5b : Hid (InIn w6 (.slice s6 O.length c6) O) := Lib.hid (LIn.keep0 HI5.out hf)
        have HR6 : Hid (SbIn w6 (.slice s5 L3.length c5) L3) := Lib.hid (LIn.keep0 HR5.out hf)
        have HZ6 := Lib.hid (HZ5.out.trans hf (by simp))
        obtain ⟨s7, c7, hv7, _⟩ := ho.lies.form
        subst hv7
        clear ho hf CRS
        unfold Stop
        have CI : Hid (Calls Try.prog 13 #[.slice s6 O.length c6, .slice s7 O.length c7] w6 fun e w' => e = .returned (.bool true) ∧ Fr [] w6 w') := Lib.hid (by
          have := rsi_ints _ _ O O w6 HI5b.out HI6.out HOL.out HOL.out
          rw [show (O == O) = true from by simp] at this
          exact this)
        go_wp2_with (go_at_call 13; refine CI.out.mono ?_; rintro e w7 ⟨rfl, hf⟩; refine go_stop ?_)
        have HR7 : Hid (SbIn w7 (.slice s5 L3.length c5) L3) := Lib.hid (LIn.keep0 HR6.out hf)
        have HZ7 := Lib.hid (HZ6.out.trans hf (by simp))
        have HW7 : Hid (SbIn w7 (.slice s3 L3.length c3) L3) := Lib.hid (HL3.out.lin.keep0 HZ7.out)
        clear hf CI
        unfold Stop
        go_wp2_with fail
        go_loopw [14] (fun iv wq => ∃ (m : Nat), iv = .int .i64 m ∧ m ≤ L3.length ∧ Fr [] w7 wq) (fun i _ => L3.length - (intOf i).toNat)
        case atStart => exact ⟨0, rfl, Nat.zero_le _, Fr.refl _ _⟩
        case round =>
          obtain ⟨m, rfl, hm, hf⟩ := hrel
          have HFQ := Lib.hid hf
          clear hf
          by_cases h2 : m < L3.length
          · have t4 : decide (m < L3.length) = true := by simpa using h2
            obtain ⟨y, hy⟩ : ∃ y, L3[m]? = some y := ⟨_, List.getElem?_eq_getElem h2⟩
            obtain ⟨g8, off8, d8, e8, _, l8, k8⟩ := SbIn.here HR7.out (by omega)
            simp only [Value.slice.injEq] at e8
            obtain ⟨rfl, _, rfl⟩ := e8
            obtain ⟨g9, off9, d9, e9, _, l9, k9⟩ := SbIn.here HW7.out (by omega)
            simp only [Value.slice.injEq] at e9
            obtain ⟨rfl, _, rfl⟩ := e9
            have hc := (k8 m y hy).keep HFQ.out (by simp)
            have hd := (k9 m y hy).keep HFQ.out (by simp)
            have A0 := fun n : After [] wr => n.cell hc.c0 (by simp)
            have A1 := fun n : After [] wr => n.cell hc.c1 (by simp)
            have A2 := fun n : After [] wr => n.cell hc.c2 (by simp)
            have A3 := fun n : After [] wr => n.cell hc.c3 (by simp)
            have B0 := fun n : After [] wr => n.cell hd.c0 (by simp)
            have B1 := fun n : After [] wr => n.cell hd.c1 (by simp)
            have B2 := fun n : After [] wr => n.cell hd.c2 (by simp)
            have B3 := fun n : After [] wr => n.cell hd.c3 (by simp)
            have q9 := fun X => neq_same y.id y.rev y.f y.t X
            have HMY := Lib.hid fun W => HM.out y W
            unfold Sb.val at HMY
            clear k8 k9 hy hc hd
            go_upto_region 15 with fail
            refine wp_region_after [] (by kernel_rfl) (by kernel_rfl) ?_
            repeat (go_big_quiet_step ((go_at_call 16; exact After.quiet (HMY.out _))))
            refine wpQuiet_nil ?_
            rintro _ ⟨nq, rfl⟩
            have HNQ := Lib.hid (HFQ.out.trans nq.fr (by simp))
            clear A0 A1 A2 A3 B0 B1 B2 B3
            go_wp2_with fail
            go_roundw
            case rel => exact ⟨m + 1, by go_num, by omega, HNQ.out⟩
            case measure => simp [intOf]; omega
          · have t4 : decide (m < L3.length) = false := by simpa using h2
            have HZ8 := Lib.hid (HZ7.out.trans HFQ.out (by simp))
            go_wp2_with fail
            go_roundw
            case rel => exact ⟨j + 1, S3, by go_num, by omega, by omega, by rw [← HLE.out]; exact HL3.out.keep0 HZ8.out, by rw [← HLE.out]; exact HX3.out.keep0 HZ8.out, HG3.out, HF3.out.trans HZ8.out (by simp)⟩
            case measure => simp [intOf]; omega
      · have t2 : decide (j < 60) = false := by simpa using h60
        have t3 : decide ((j : Int) < 60) = false := by simp; omega
        clear hlf
        go_wp2_with fail
        go_ret
        exact ⟨rfl, HF2.out.below (Nat.le_refl _) (by simp)⟩
    · have t1 : decide (j < l.length) = false := by simpa using h
      clear hlf
      go_wp2_with fail
      go_ret
      exact ⟨rfl, HF2.out.below (Nat.le_refl _) (by simp)⟩

set_option maxRecDepth 100000 in
theorem contract (H : Type) (enc : TypeId × Value → H) (W : World) (base : Nat) (args : Array Value) (ds gs : List (DataW H)) (before : List MemPlace)
    (hval0 : ∀ (j : Nat) t v, Try.f3.params[j]? = some t → args[j]? = some v → Value.okWide Try.prog W .any base t v)
    (hW : DataW.Whole enc Try.prog Try.f3.params.toList Rows.subidxPlaysSpec.vars false W args.toList ds gs before) :
    Calls Try.prog 3 args W fun e W' => ∃ v, e = .returned v ∧ Rows.subidxPlaysSpec.post enc Try.prog Try.f3 false true false false W args v W' := by
  have hval : ∀ (j : Nat) t v, Try.f3.params[j]? = some t → args[j]? = some v → Value.okWide Try.prog W .any base t v := hval0
  have hW' := hW
  obtain ⟨p, q, hA0, hV, rfl, hfz, hnd⟩ := hW
  have hA : DataW.TrodAll enc Try.prog W 0 (fun _ => true) true Try.f3.params.toList args.toList ds p := hA0
  rw [Try.params3] at hA hval
  obtain ⟨v0, vs0, d0, ds0, p0, q0, hargs, rfl, rfl, h0, r0⟩ := trodAll_cons hA
  obtain ⟨v1, vs1, d1, ds1, p1, q1, rfl, rfl, rfl, h1, r1⟩ := trodAll_cons r0
  obtain ⟨v2, vs2, d2, ds2, p2, q2, rfl, rfl, rfl, h2, r2⟩ := trodAll_cons r1
  obtain ⟨rfl, rfl, rfl⟩ := trodAll_nil r2
  obtain rfl : args = #[v0, v1, v2] := by cases args; simp_all
  obtain ⟨rfl, rfl⟩ := trodVars_none hV
  have k0 := h0
  have lt0 : ∀ x ∈ p0, x.block < W.heap.size := by obtain ⟨m, hm⟩ := k0; exact DataW.trod_lt m _ _ _ hm
  have k1 := h1
  have lt1 : ∀ x ∈ p1, x.block < W.heap.size := by obtain ⟨m, hm⟩ := k1; exact DataW.trod_lt m _ _ _ hm
  have k2 := h2
  have lt2 : ∀ x ∈ p2, x.block < W.heap.size := by obtain ⟨m, hm⟩ := k2; exact DataW.trod_lt m _ _ _ hm
  obtain ⟨l, hl⟩ := open_sdeeds (hval 0 22 v0 rfl rfl) h0
  obtain ⟨k, rfl, rfl, _, wk⟩ := open_string Try.underlying9 (hval 1 9 v1 rfl rfl) h1
  obtain ⟨rev, rfl, _, _, wrev⟩ := open_int Try.underlying3 (hval 2 3 v2 rfl rfl) h2
  clear hA0 hval0 hval
  refine (walk v0 l k rev W hl).mono fun e W' ⟨he, bel⟩ => ?_
  subst he
  exact ⟨_, rfl, _, _, _, [], _, [], hW', trodAll_mk1 (shut_bool Try.underlying4 _), (trodAll_cons_mk (Below.trod laid_prog (by kernel_rfl) (of_decide_eq_true (by kernel_rfl)) k0 bel lt0) (trodAll_cons_mk (Below.trod laid_prog (by kernel_rfl) (of_decide_eq_true (by kernel_rfl)) k1 bel lt1) (trodAll_cons_mk (Below.trod laid_prog (by kernel_rfl) (of_decide_eq_true (by kernel_rfl)) k2 bel lt2) trodAll_mk0))), rfl, bel.frame _, fun h => by cases h⟩

set_option maxRecDepth 100000 in
theorem lifted (os : Os) (started : os.Started) (H : Type) (enc : TypeId × Value → H) :
    ReturnsInHanded {} Try.checked os 3 .any (Rows.subidxPlaysSpec.pre6 enc Try.prog Try.f3 Rows.subidxPlaysRow.domain false) (Rows.subidxPlaysSpec.post enc Try.prog Try.f3 false true false false) := by
  refine returnsInHanded_of_change (C := Try.checked) own_prog started (by kernel_rfl) Try.func3
    (ChangeSpec.witness6 (enc := enc) (C := Try.checked) false ⟨#[], #[.slice none 0 0, .string ⟨#[]⟩, .int .i64 0], []⟩ 8 (by kernel_rfl) (by kernel_rfl) (by kernel_rfl) (by kernel_rfl)) ?_
  intro W base args ds gs before hval hW _ _
  exact contract H enc W base args ds gs before hval hW

theorem proved : Rows.SubidxPlaysSaid :=
  OpenClaim.holds_of_wide 3 Try.f3 rfl rfl rfl rfl rfl rfl rfl ⟨rfl, rfl, rfl, rfl, rfl⟩ rfl rfl rfl rfl rfl (by kernel_rfl) Try.func3 (by kernel_rfl)
    (of_decide_eq_true (by kernel_rfl)) (by unfold Func.isWrapper; first | (rw [if_pos (by decide +kernel)]; kernel_rfl) | (rw [if_neg (by decide +kernel)]; exact ⟨rfl, rfl⟩))
    (fun os started H enc _ => lifted os started H enc)

end Go.Proofs.Ytcieokfjkfpajaa.lawSubidxPlays
