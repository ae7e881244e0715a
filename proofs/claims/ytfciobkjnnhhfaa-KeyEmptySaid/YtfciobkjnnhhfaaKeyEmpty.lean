/- A range is empty just if it hasn't its own begin; what may be isn't; with a later begin, or an earlier end, a range has no key more: for every range and every two strings. No condition. -/
import Derived.Test.YtfciobkjnnhhfaaKeyLaw
import Derived.Test.YtfciobkjnnhhfaaAfter
namespace Go.Proofs.Ytfciobkjnnhhfaa.lawKeyEmpty
open Go.ChangeShapes Go.WideShapes Go.ChangeAt Go.RowKit Go.Deep Go.ChangeMaps
set_option linter.unusedVariables false
set_option linter.unusedSimpArgs false

/-- with a later begin a range has no key more -/
theorem less_in {f t o k : Bs} (h : inB (if ls f o then o else f) t k = true) : inB f t k = true := by
  split at h
  · rename_i h1
    unfold inB at h ⊢
    simp only [Bool.and_eq_true, Bool.not_eq_true'] at h ⊢
    exact ⟨le_trans' (ls_asymm h1) h.1, h.2⟩
  · exact h
/-- nor with an earlier end -/
theorem few_in {f t o k : Bs} (h : inB f (if !(o == []) && (t == [] || ls o t) then o else t) k = true) : inB f t k = true := by
  split at h
  · rename_i h1
    unfold inB at h ⊢
    simp only [Bool.and_eq_true, Bool.not_eq_true', Bool.or_eq_true] at h h1 ⊢
    refine ⟨h.1, ?_⟩
    rcases h1.2 with h2 | h2
    · exact Or.inl h2
    · right
      rcases h.2 with h3 | h3
      · rw [h3] at h1; cases h1.1
      · exact ls_trans h3 h2
  · exact h
theorem mayr_empty {f t : Bs} (h : mayRangeB f t = true) : emptyB f t = false := by
  unfold mayRangeB at h
  simp only [Bool.and_eq_true, Bool.not_eq_true'] at h
  exact h.1.1
set_option maxRecDepth 100000 in
set_option maxHeartbeats 20000000 in
theorem walk (f t k o : ByteArray) (w : World) (wf : f.size ≤ maxLen) (wt : t.size ≤ maxLen) :
    Calls Try.prog 8 #[.agg #[.string f, .string t], .string k, .string o] w fun e w' => e = .returned (.bool true) ∧ Below w.heap.size w w' := by
  obtain ⟨lf, hlf⟩ : ∃ x : ByteArray, x = if ls f.toList o.toList then o else f := ⟨_, rfl⟩
  obtain ⟨ft, hft⟩ : ∃ x : ByteArray, x = if !(o.toList == []) && (t.toList == [] || ls o.toList t.toList) then o else t := ⟨_, rfl⟩
  have e1 : inB lf.toList t.toList k.toList = true → inB f.toList t.toList k.toList = true := by
    intro h
    apply less_in (o := o.toList)
    rw [hlf] at h
    split at h
    · rename_i h2; rw [if_pos h2]; exact h
    · rename_i h2; rw [if_neg h2]; exact h
  have e2 : inB f.toList ft.toList k.toList = true → inB f.toList t.toList k.toList = true := by
    intro h
    apply few_in (o := o.toList)
    rw [hft] at h
    split at h
    · rename_i h2; rw [if_pos h2]; exact h
    · rename_i h2; rw [if_neg h2]; exact h
  have e3 := @empty_in f.toList t.toList k.toList
  have e4 := @mayr_empty f.toList t.toList
  have v0 := emptyB_in f.toList t.toList
  have hl1 : Op.bytesLess f.toList o.toList = true → lf = o := by intro h; rw [hlf, ls, h]; rfl
  have hl2 : Op.bytesLess f.toList o.toList = false → lf = f := by intro h; rw [hlf, ls, h]; rfl
  have hce : (o.toList == []) = o.toList.isEmpty := by rw [Bool.eq_iff_iff]; simp
  have hct : (t.toList == []) = t.toList.isEmpty := by rw [Bool.eq_iff_iff]; simp
  rw [hce, hct, ls] at hft
  obtain ⟨C, hC⟩ : ∃ C, (!o.toList.isEmpty && (t.toList.isEmpty || Op.bytesLess o.toList t.toList)) = C := ⟨_, rfl⟩
  rw [hC] at hft
  have HCC := Lib.hid hC
  have HFT := Lib.hid hft
  clear hce hct hC
  clear hlf hft
  have HL := Lib.hid (And.intro hl1 hl2)
  clear hl1 hl2
  have q1 := @run_lss Try.prog
  have q2 := @run_gtr' Try.prog
  have cr : CV 12 #[.agg #[.string f, .string t]] (.bool (mayRangeB f.toList t.toList)) := ⟨fun W => key_mayrange f t W wf wt⟩
  have ce : CV 16 #[.agg #[.string f, .string t]] (.bool (emptyB f.toList t.toList)) := ⟨fun W => key_empty f t W⟩
  obtain ⟨bE, hE⟩ : ∃ b, emptyB f.toList t.toList = b := ⟨_, rfl⟩
  obtain ⟨bM, hM⟩ : ∃ b, mayRangeB f.toList t.toList = b := ⟨_, rfl⟩
  obtain ⟨b0, hb0⟩ : ∃ b, inB f.toList t.toList f.toList = b := ⟨_, rfl⟩
  obtain ⟨b1, hb1⟩ : ∃ b, inB f.toList t.toList k.toList = b := ⟨_, rfl⟩
  obtain ⟨b2, hb2⟩ : ∃ b, inB lf.toList t.toList k.toList = b := ⟨_, rfl⟩
  obtain ⟨b3, hb3⟩ : ∃ b, inB f.toList ft.toList k.toList = b := ⟨_, rfl⟩
  rw [hE] at ce e3 e4 v0
  rw [hM] at cr e4
  rw [hb0] at v0
  rw [hb1] at e1 e2 e3
  rw [hb2] at e1
  rw [hb3] at e2
  clear hE hM wf wt
  replace hb0 := Lib.hid hb0
  replace hb1 := Lib.hid hb1
  replace hb2 := Lib.hid hb2
  replace hb3 := Lib.hid hb3
  have EE := Lib.hid (And.intro e1 (And.intro e2 (And.intro e3 (And.intro e4 v0))))
  clear e1 e2 e3 e4 v0
  go_enter Try.func8, Try.ntmps8
  go_upto_if 15 with (first | (go_at_call 9; refine (key_awake _).mono ?_; rintro e w1 ⟨rfl, h1⟩; have HC := Lib.hid (h1.keep (new_block w _) (by simp)); obtain ⟨kc0, kc1, _⟩ := cells2 HC.out; obtain ⟨kd0, kd1, _⟩ := cells2 (w := w1.alloc (Obj.cells #[.string f, .string t] 23)) ((Below.heap_alloc _ _ _ (lt_of_block HC.out)).trans HC.out); have HF := Lib.hid (((Fr.refl [] w).alloc _).trans h1 (by simp)); clear h1))
  go_cut [] (fun wc => wc = w1.alloc (Obj.cells #[.string lf, .string t] 23))
  case first =>
    cases hb : Op.bytesLess f.toList o.toList
    · have e := HL.out.2 hb
      subst e
      go_wp2_with fail
      go_meet
      rfl
    · have e := HL.out.1 hb
      subst e
      go_wp2_with fail
      go_meet
      rfl
  case rest =>
    obtain rfl := hcut
    have HK := Lib.hid ((Below.heap_alloc w1 (Obj.cells #[.string lf, .string t] 23) _ (lt_of_block HC.out)).trans HC.out)
    have HK2 := Lib.hid ((Below.heap_alloc (w1.alloc (Obj.cells #[.string lf, .string t] 23)) (Obj.cells #[.string f, .string t] 23) _ (lt_of_block HK.out)).trans HK.out)
    obtain ⟨kf0, kf1, _⟩ := cells2 HK.out
    obtain ⟨kg0, kg1, _⟩ := cells2 HK2.out
    go_upto_region 6 with fail
    go_cut [31] (fun v wc => v = .bool C ∧ wc = (w1.alloc (Obj.cells #[.string lf, .string t] 23)).alloc (Obj.cells #[.string f, .string t] 23))
    case first =>
      cases hb : o.toList.isEmpty
      · cases hc : t.toList.isEmpty
        · cases hd : Op.bytesLess o.toList t.toList
          all_goals
            have hC := HCC.out
            rw [hb, hc, hd] at hC
            subst hC
            go_wp2_with fail
            go_meet
            exact ⟨rfl, rfl⟩
        · have hC := HCC.out
          rw [hb, hc] at hC
          subst hC
          go_wp2_with fail
          go_meet
          exact ⟨rfl, rfl⟩
      · have hC := HCC.out
        rw [hb] at hC
        subst hC
        go_wp2_with fail
        go_meet
        exact ⟨rfl, rfl⟩
    case rest =>
      obtain ⟨rfl, rfl⟩ := hcut
      go_upto_if 31 with fail
      go_cut [] (fun wc => wc = (w1.alloc (Obj.cells #[.string lf, .string t] 23)).alloc (Obj.cells #[.string f, .string ft] 23))
      case first =>
        cases C
        all_goals
          have e := HFT.out
          subst e
          go_wp2_with fail
          go_meet
          rfl
      case rest =>
        obtain rfl := hcut
        obtain ⟨x1, x2⟩ := blk2 w1 (Obj.cells #[.string lf, .string t] 23) (Obj.cells #[.string f, .string ft] 23)
        have HC8 := Lib.hid ((Below.heap_alloc (w1.alloc (Obj.cells #[.string lf, .string t] 23)) (Obj.cells #[.string f, .string ft] 23) _ (lt_of_block HK.out)).trans HK.out)
        have HF8 := Lib.hid ((HF.out.alloc (Obj.cells #[.string lf, .string t] 23)).alloc (Obj.cells #[.string f, .string ft] 23))
        clear HC HF HK HK2 kc0 kc1 kd0 kd1 kf0 kf1 kg0 kg1 HL HCC HFT q1 q2
        have HM := Lib.hid x1
        have HN := Lib.hid x2
        have HC := HC8
        have HF := HF8
        clear x1 x2 HC8 HF8
        generalize (w1.alloc (Obj.cells #[.string lf, .string t] 23)).alloc (Obj.cells #[.string f, .string ft] 23) = w8 at *
        obtain ⟨kc0, kc1, _⟩ := cells2 HC.out
        obtain ⟨km0, km1, _⟩ := cells2 HM.out
        obtain ⟨kn0, kn1, _⟩ := cells2 HN.out
        obtain ⟨e1, e2, e3, e4, v0⟩ := EE.out
        clear EE
        cases bE
        all_goals cases bM
        all_goals try (exact absurd (e4 rfl) (by decide))
        all_goals cases b1
        all_goals try (exact absurd (e3 rfl) (by decide))
        all_goals cases b2
        all_goals try (exact absurd (e1 rfl) (by decide))
        all_goals cases b3
        all_goals try (exact absurd (e2 rfl) (by decide))
        all_goals cases b0
        all_goals try (exact absurd v0 (by decide))
        all_goals clear e1 e2 e3 e4 v0
        all_goals
          have A0 := fun n : After [] w8 => n.cell kc0 (by simp)
          have A1 := fun n : After [] w8 => n.cell kc1 (by simp)
          have A2 := fun n : After [] w8 => n.cell km0 (by simp)
          have A3 := fun n : After [] w8 => n.cell km1 (by simp)
          have A4 := fun n : After [] w8 => n.cell kn0 (by simp)
          have A5 := fun n : After [] w8 => n.cell kn1 (by simp)
          go_wp2_with fail
          refine wp_region_after [] (by kernel_rfl) (by kernel_rfl) ?_
          repeat (go_big_quiet_step (first
            | (go_at_call 12; exact After.quiet (cr.out _))
            | (go_at_call 16; exact After.quiet (ce.out _))
            | (go_at_call 14; exact After.quiet_bool (key_in _ _ _ _) (by first | exact hb0.out | exact hb1.out | exact hb2.out | exact hb3.out))))
          refine wpQuiet_nil ?_
          rintro _ ⟨nq, rfl⟩
          go_wp2
          go_ret
          exact ⟨rfl, (HF.out.trans nq.fr (by simp)).below (Nat.le_refl _) (by simp)⟩

set_option maxRecDepth 100000 in
theorem contract (H : Type) (enc : TypeId × Value → H) (W : World) (base : Nat) (args : Array Value) (ds gs : List (DataW H)) (before : List MemPlace)
    (hval0 : ∀ (j : Nat) t v, Try.f8.params[j]? = some t → args[j]? = some v → Value.okWide Try.prog W .any base t v)
    (hW : DataW.Whole enc Try.prog Try.f8.params.toList Rows.keyEmptySpec.vars false W args.toList ds gs before) :
    Calls Try.prog 8 args W fun e W' => ∃ v, e = .returned v ∧ Rows.keyEmptySpec.post enc Try.prog Try.f8 false true false false W args v W' := by
  have hval : ∀ (j : Nat) t v, Try.f8.params[j]? = some t → args[j]? = some v → Value.okWide Try.prog W .any base t v := hval0
  have hW' := hW
  obtain ⟨p, q, hA0, hV, rfl, hfz, hnd⟩ := hW
  have hA : DataW.TrodAll enc Try.prog W 0 (fun _ => true) true Try.f8.params.toList args.toList ds p := hA0
  rw [Try.params8] at hA hval
  obtain ⟨v0, vs0, d0, ds0, p0, q0, hargs, rfl, rfl, h0, r0⟩ := trodAll_cons hA
  obtain ⟨v1, vs1, d1, ds1, p1, q1, rfl, rfl, rfl, h1, r1⟩ := trodAll_cons r0
  obtain ⟨v2, vs2, d2, ds2, p2, q2, rfl, rfl, rfl, h2, r2⟩ := trodAll_cons r1
  obtain ⟨rfl, rfl, rfl⟩ := trodAll_nil r2
  obtain rfl : args = #[v0, v1, v2] := by cases args; simp_all
  obtain ⟨rfl, rfl⟩ := trodVars_none hV
  have k0 := h0
  have lt0 : ∀ x ∈ p0, x.block < W.heap.size := by obtain ⟨m, hm⟩ := k0; exact DataW.trod_lt m _ _ _ hm
  have k1 := h1
  have lt1 : ∀ x ∈ p1, x.block < W.heap.size := by obtain ⟨m, hm⟩ := k1; exact DataW.trod_lt m _ _ _ hm
  have k2 := h2
  have lt2 : ∀ x ∈ p2, x.block < W.heap.size := by obtain ⟨m, hm⟩ := k2; exact DataW.trod_lt m _ _ _ hm
  obtain ⟨f, t, rfl, wf, wt⟩ := open_range (hval 0 23 v0 rfl rfl) h0
  obtain ⟨k, rfl, rfl, _, wk⟩ := open_string Try.underlying9 (hval 1 9 v1 rfl rfl) h1
  obtain ⟨o, rfl, rfl, _, wo⟩ := open_string Try.underlying9 (hval 2 9 v2 rfl rfl) h2
  clear hA0 hval0 hval
  refine (walk f t k o W wf wt).mono fun e W' ⟨he, bel⟩ => ?_
  subst he
  exact ⟨_, rfl, _, _, _, [], _, [], hW', trodAll_mk1 (shut_bool Try.underlying4 _), (trodAll_cons_mk (Below.trod laid_prog (by kernel_rfl) (of_decide_eq_true (by kernel_rfl)) k0 bel lt0) (trodAll_cons_mk (Below.trod laid_prog (by kernel_rfl) (of_decide_eq_true (by kernel_rfl)) k1 bel lt1) (trodAll_cons_mk (Below.trod laid_prog (by kernel_rfl) (of_decide_eq_true (by kernel_rfl)) k2 bel lt2) trodAll_mk0))), rfl, bel.frame _, fun h => by cases h⟩

set_option maxRecDepth 100000 in
theorem lifted (os : Os) (started : os.Started) (H : Type) (enc : TypeId × Value → H) :
    ReturnsInHanded {} Try.checked os 8 .any (Rows.keyEmptySpec.pre6 enc Try.prog Try.f8 Rows.keyEmptyRow.domain false) (Rows.keyEmptySpec.post enc Try.prog Try.f8 false true false false) := by
  refine returnsInHanded_of_change (C := Try.checked) own_prog started (by kernel_rfl) Try.func8
    (ChangeSpec.witness6 (enc := enc) (C := Try.checked) false ⟨#[], #[.agg #[.string ⟨#[]⟩, .string ⟨#[]⟩], .string ⟨#[]⟩, .string ⟨#[]⟩], []⟩ 8 (by kernel_rfl) (by kernel_rfl) (by kernel_rfl) (by kernel_rfl)) ?_
  intro W base args ds gs before hval hW _ _
  exact contract H enc W base args ds gs before hval hW

theorem proved : Rows.KeyEmptySaid :=
  OpenClaim.holds_of_wide 8 Try.f8 rfl rfl rfl rfl rfl rfl rfl ⟨rfl, rfl, rfl, rfl, rfl⟩ rfl rfl rfl rfl rfl (by kernel_rfl) Try.func8 (by kernel_rfl)
    (of_decide_eq_true (by kernel_rfl)) (by unfold Func.isWrapper; first | (rw [if_pos (by decide +kernel)]; kernel_rfl) | (rw [if_neg (by decide +kernel)]; exact ⟨rfl, rfl⟩))
    (fun os started H enc _ => lifted os started H enc)

end Go.Proofs.Ytfciobkjnnhhfaa.lawKeyEmpty
