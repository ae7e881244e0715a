/- Of two heads that may be the later one is the higher word, and two have one word just if they are the same: for every two heads. No condition. -/
import Derived.Test.YtbfgofalgjamaaaWdLaw
namespace Go.Proofs.Ytbfgofalgjamaaa.lawWordRises
open Go.ChangeShapes Go.WideShapes Go.ChangeAt Go.RowKit Go.Deep Go.ChangeMaps
set_option linter.unusedVariables false
set_option linter.unusedSimpArgs false

set_option maxRecDepth 100000 in
set_option maxHeartbeats 40000000 in
theorem walk (sa ra ha sb rb hb : Int) (w : World) :
    Calls Try.prog 7 #[hdV sa ra ha, hdV sb rb hb] w fun e w' => e = .returned (.bool true) ∧ Below w.heap.size w w' := by
  obtain ⟨x, hx⟩ : ∃ x, x = headW sa ra ha := ⟨_, rfl⟩
  obtain ⟨y, hy⟩ : ∃ y, y = headW sb rb hb := ⟨_, rfl⟩
  have c1 : CW 20 #[.agg #[.int .i64 sa, .int .i64 ra, .int .i64 ha]] (.bool (mayW sa ra ha)) := ⟨fun W => wd_may sa ra ha W⟩
  have c2 : CW 20 #[.agg #[.int .i64 sb, .int .i64 rb, .int .i64 hb]] (.bool (mayW sb rb hb)) := ⟨fun W => wd_may sb rb hb W⟩
  have c3 : CW 16 #[.agg #[.int .i64 sa, .int .i64 ra, .int .i64 ha]] (.int .u64 x) := ⟨fun W => by have h := wd_head sa ra ha W; rw [← hx] at h; exact h⟩
  have c4 : CW 16 #[.agg #[.int .i64 sb, .int .i64 rb, .int .i64 hb]] (.int .u64 y) := ⟨fun W => by have h := wd_head sb rb hb W; rw [← hy] at h; exact h⟩
  unfold hdV
  have HF := Lib.hid (((Fr.refl [] w).alloc (.cells #[.int .i64 sa, .int .i64 ra, .int .i64 ha] 28)).alloc (.cells #[.int .i64 sb, .int .i64 rb, .int .i64 hb] 28))
  have HX := Lib.hid (((Fr.refl [] _).alloc (.cells #[.int .i64 sb, .int .i64 rb, .int .i64 hb] 28)).keep (new_block w (.cells #[.int .i64 sa, .int .i64 ra, .int .i64 ha] 28)) (by simp))
  have HY := Lib.hid (new_block (w.alloc (.cells #[.int .i64 sa, .int .i64 ra, .int .i64 ha] 28)) (.cells #[.int .i64 sb, .int .i64 rb, .int .i64 hb] 28))
  rw [show (w.alloc (.cells #[.int .i64 sa, .int .i64 ra, .int .i64 ha] 28)).heap.size = w.heap.size + 1 by simp] at HY
  go_enter Try.func7, Try.ntmps7
  go_wp2_with (go_at_call 9; refine go_stop ?_)
  unfold Stop
  refine (wd_awake _).mono ?_
  rintro e w1 ⟨rfl, hw⟩
  replace HF := Lib.hid (HF.out.trans hw (by simp))
  replace HX := Lib.hid (hw.keep HX.out (by simp))
  replace HY := Lib.hid (hw.keep HY.out (by simp))
  clear hw
  obtain ⟨t0, t1, t2, _⟩ := cells3 HX.out
  obtain ⟨u0, u1, u2, _⟩ := cells3 HY.out
  go_wp2_with (go_at_call 20; refine go_stop ?_)
  unfold Stop
  clear t0 t1 t2 u0 u1 u2
  refine (c1.out _).mono ?_
  rintro e w2 ⟨rfl, hw⟩
  dsimp only
  replace HF := Lib.hid (HF.out.trans hw (by simp))
  replace HX := Lib.hid (hw.keep HX.out (by simp))
  replace HY := Lib.hid (hw.keep HY.out (by simp))
  clear hw
  obtain ⟨t0, t1, t2, _⟩ := cells3 HX.out
  obtain ⟨u0, u1, u2, _⟩ := cells3 HY.out
  by_cases hm : mayW sa ra ha = true
  · rw [hm]
    go_wp2_with (go_at_call 20; refine go_stop ?_)
    unfold Stop
    clear t0 t1 t2 u0 u1 u2
    refine (c2.out _).mono ?_
    rintro e w3 ⟨rfl, hw⟩
    dsimp only
    replace HF := Lib.hid (HF.out.trans hw (by simp))
    replace HX := Lib.hid (hw.keep HX.out (by simp))
    replace HY := Lib.hid (hw.keep HY.out (by simp))
    clear hw
    obtain ⟨t0, t1, t2, _⟩ := cells3 HX.out
    obtain ⟨u0, u1, u2, _⟩ := cells3 HY.out
    by_cases hn : mayW sb rb hb = true
    · rw [hn]
      clear c1 c2
      by_cases q0 : sa < sb
      · have d1 : decide (sa < sb) = true := by rw [decide_eq_true_iff]; omega
        have e1 : decide (x < y) = true := by rw [decide_eq_true_iff]; have h := rises hm hn; rw [← hx, ← hy] at h; omega
        have e2 : (x == y) = false := by rw [beq_eq_false_iff_ne]; intro hq; have h := rises hm hn; rw [← hx, ← hy] at h; omega
        have E : ∀ X, (binOp .eql 28 (.agg #[.int .i64 sa, .int .i64 ra, .int .i64 ha]) (.agg #[.int .i64 sb, .int .i64 rb, .int .i64 hb])).run Try.prog X = .ok (.bool false) X := by intro X; rw [eq_hd2]; simp <;> omega
        clear hn hm hx hy
        go_wp2_with fail
        have A0 := fun n : After [] w3 => n.cell t0 (by simp)
        have A1 := fun n : After [] w3 => n.cell t1 (by simp)
        have A2 := fun n : After [] w3 => n.cell t2 (by simp)
        have B0 := fun n : After [] w3 => n.cell u0 (by simp)
        have B1 := fun n : After [] w3 => n.cell u1 (by simp)
        have B2 := fun n : After [] w3 => n.cell u2 (by simp)
        refine wp_region_after [] (by kernel_rfl) (by kernel_rfl) ?_
        repeat (go_big_quiet_step (first
          | (go_at_call 16; with_reducible exact After.quiet (c3.out _))
          | (go_at_call 16; with_reducible exact After.quiet (c4.out _))))
        refine wpQuiet_nil ?_
        rintro _ ⟨nq, rfl⟩
        go_wp2
        go_ret
        exact ⟨rfl, (HF.out.trans nq.fr (by simp)).below (Nat.le_refl _) (by simp)⟩
      · by_cases q1 : sb < sa
        · have d1 : decide (sa < sb) = false := by rw [decide_eq_false_iff_not]; omega
          have d2 : (sa == sb) = false := by rw [beq_eq_false_iff_ne]; intro hq; omega
          have e1 : decide (x < y) = false := by rw [decide_eq_false_iff_not]; have h := rises hm hn; rw [← hx, ← hy] at h; omega
          have e2 : (x == y) = false := by rw [beq_eq_false_iff_ne]; intro hq; have h := rises hm hn; rw [← hx, ← hy] at h; omega
          have E : ∀ X, (binOp .eql 28 (.agg #[.int .i64 sa, .int .i64 ra, .int .i64 ha]) (.agg #[.int .i64 sb, .int .i64 rb, .int .i64 hb])).run Try.prog X = .ok (.bool false) X := by intro X; rw [eq_hd2]; simp <;> omega
          clear hn hm hx hy
          go_wp2_with fail
          have A0 := fun n : After [] w3 => n.cell t0 (by simp)
          have A1 := fun n : After [] w3 => n.cell t1 (by simp)
          have A2 := fun n : After [] w3 => n.cell t2 (by simp)
          have B0 := fun n : After [] w3 => n.cell u0 (by simp)
          have B1 := fun n : After [] w3 => n.cell u1 (by simp)
          have B2 := fun n : After [] w3 => n.cell u2 (by simp)
          refine wp_region_after [] (by kernel_rfl) (by kernel_rfl) ?_
          repeat (go_big_quiet_step (first
            | (go_at_call 16; with_reducible exact After.quiet (c3.out _))
            | (go_at_call 16; with_reducible exact After.quiet (c4.out _))))
          refine wpQuiet_nil ?_
          rintro _ ⟨nq, rfl⟩
          go_wp2
          go_ret
          exact ⟨rfl, (HF.out.trans nq.fr (by simp)).below (Nat.le_refl _) (by simp)⟩
        · by_cases q2 : ra < rb
          · have d1 : decide (sa < sb) = false := by rw [decide_eq_false_iff_not]; omega
            have d2 : (sa == sb) = true := by rw [beq_iff_eq]; omega
            have d3 : decide (ra < rb) = true := by rw [decide_eq_true_iff]; omega
            have e1 : decide (x < y) = true := by rw [decide_eq_true_iff]; have h := rises hm hn; rw [← hx, ← hy] at h; omega
            have e2 : (x == y) = false := by rw [beq_eq_false_iff_ne]; intro hq; have h := rises hm hn; rw [← hx, ← hy] at h; omega
            have E : ∀ X, (binOp .eql 28 (.agg #[.int .i64 sa, .int .i64 ra, .int .i64 ha]) (.agg #[.int .i64 sb, .int .i64 rb, .int .i64 hb])).run Try.prog X = .ok (.bool false) X := by intro X; rw [eq_hd2]; simp <;> omega
            clear hn hm hx hy
            go_wp2_with fail
            have A0 := fun n : After [] w3 => n.cell t0 (by simp)
            have A1 := fun n : After [] w3 => n.cell t1 (by simp)
            have A2 := fun n : After [] w3 => n.cell t2 (by simp)
            have B0 := fun n : After [] w3 => n.cell u0 (by simp)
            have B1 := fun n : After [] w3 => n.cell u1 (by simp)
            have B2 := fun n : After [] w3 => n.cell u2 (by simp)
            refine wp_region_after [] (by kernel_rfl) (by kernel_rfl) ?_
            repeat (go_big_quiet_step (first
              | (go_at_call 16; with_reducible exact After.quiet (c3.out _))
              | (go_at_call 16; with_reducible exact After.quiet (c4.out _))))
            refine wpQuiet_nil ?_
            rintro _ ⟨nq, rfl⟩
            go_wp2
            go_ret
            exact ⟨rfl, (HF.out.trans nq.fr (by simp)).below (Nat.le_refl _) (by simp)⟩
          · by_cases q3 : rb < ra
            · have d1 : decide (sa < sb) = false := by rw [decide_eq_false_iff_not]; omega
              have d2 : (sa == sb) = true := by rw [beq_iff_eq]; omega
              have d3 : decide (ra < rb) = false := by rw [decide_eq_false_iff_not]; omega
              have d4 : (ra == rb) = false := by rw [beq_eq_false_iff_ne]; intro hq; omega
              have e1 : decide (x < y) = false := by rw [decide_eq_false_iff_not]; have h := rises hm hn; rw [← hx, ← hy] at h; omega
              have e2 : (x == y) = false := by rw [beq_eq_false_iff_ne]; intro hq; have h := rises hm hn; rw [← hx, ← hy] at h; omega
              have E : ∀ X, (binOp .eql 28 (.agg #[.int .i64 sa, .int .i64 ra, .int .i64 ha]) (.agg #[.int .i64 sb, .int .i64 rb, .int .i64 hb])).run Try.prog X = .ok (.bool false) X := by intro X; rw [eq_hd2]; simp <;> omega
              clear hn hm hx hy
              go_wp2_with fail
              have A0 := fun n : After [] w3 => n.cell t0 (by simp)
              have A1 := fun n : After [] w3 => n.cell t1 (by simp)
              have A2 := fun n : After [] w3 => n.cell t2 (by simp)
              have B0 := fun n : After [] w3 => n.cell u0 (by simp)
              have B1 := fun n : After [] w3 => n.cell u1 (by simp)
              have B2 := fun n : After [] w3 => n.cell u2 (by simp)
              refine wp_region_after [] (by kernel_rfl) (by kernel_rfl) ?_
              repeat (go_big_quiet_step (first
                | (go_at_call 16; with_reducible exact After.quiet (c3.out _))
                | (go_at_call 16; with_reducible exact After.quiet (c4.out _))))
              refine wpQuiet_nil ?_
              rintro _ ⟨nq, rfl⟩
              go_wp2
              go_ret
              exact ⟨rfl, (HF.out.trans nq.fr (by simp)).below (Nat.le_refl _) (by simp)⟩
            · by_cases q4 : ha < hb
              · have d1 : decide (sa < sb) = false := by rw [decide_eq_false_iff_not]; omega
                have d2 : (sa == sb) = true := by rw [beq_iff_eq]; omega
                have d3 : decide (ra < rb) = false := by rw [decide_eq_false_iff_not]; omega
                have d4 : (ra == rb) = true := by rw [beq_iff_eq]; omega
                have d5 : decide (ha < hb) = true := by rw [decide_eq_true_iff]; omega
                have e1 : decide (x < y) = true := by rw [decide_eq_true_iff]; have h := rises hm hn; rw [← hx, ← hy] at h; omega
                have e2 : (x == y) = false := by rw [beq_eq_false_iff_ne]; intro hq; have h := rises hm hn; rw [← hx, ← hy] at h; omega
                have E : ∀ X, (binOp .eql 28 (.agg #[.int .i64 sa, .int .i64 ra, .int .i64 ha]) (.agg #[.int .i64 sb, .int .i64 rb, .int .i64 hb])).run Try.prog X = .ok (.bool false) X := by intro X; rw [eq_hd2]; simp <;> omega
                clear hn hm hx hy
                go_wp2_with fail
                have A0 := fun n : After [] w3 => n.cell t0 (by simp)
                have A1 := fun n : After [] w3 => n.cell t1 (by simp)
                have A2 := fun n : After [] w3 => n.cell t2 (by simp)
                have B0 := fun n : After [] w3 => n.cell u0 (by simp)
                have B1 := fun n : After [] w3 => n.cell u1 (by simp)
                have B2 := fun n : After [] w3 => n.cell u2 (by simp)
                refine wp_region_after [] (by kernel_rfl) (by kernel_rfl) ?_
                repeat (go_big_quiet_step (first
                  | (go_at_call 16; with_reducible exact After.quiet (c3.out _))
                  | (go_at_call 16; with_reducible exact After.quiet (c4.out _))))
                refine wpQuiet_nil ?_
                rintro _ ⟨nq, rfl⟩
                go_wp2
                go_ret
                exact ⟨rfl, (HF.out.trans nq.fr (by simp)).below (Nat.le_refl _) (by simp)⟩
              · by_cases q5 : hb < ha
                · have d1 : decide (sa < sb) = false := by rw [decide_eq_false_iff_not]; omega
                  have d2 : (sa == sb) = true := by rw [beq_iff_eq]; omega
                  have d3 : decide (ra < rb) = false := by rw [decide_eq_false_iff_not]; omega
                  have d4 : (ra == rb) = true := by rw [beq_iff_eq]; omega
                  have d5 : decide (ha < hb) = false := by rw [decide_eq_false_iff_not]; omega
                  have e1 : decide (x < y) = false := by rw [decide_eq_false_iff_not]; have h := rises hm hn; rw [← hx, ← hy] at h; omega
                  have e2 : (x == y) = false := by rw [beq_eq_false_iff_ne]; intro hq; have h := rises hm hn; rw [← hx, ← hy] at h; omega
                  have E : ∀ X, (binOp .eql 28 (.agg #[.int .i64 sa, .int .i64 ra, .int .i64 ha]) (.agg #[.int .i64 sb, .int .i64 rb, .int .i64 hb])).run Try.prog X = .ok (.bool false) X := by intro X; rw [eq_hd2]; simp <;> omega
                  clear hn hm hx hy
                  go_wp2_with fail
                  have A0 := fun n : After [] w3 => n.cell t0 (by simp)
                  have A1 := fun n : After [] w3 => n.cell t1 (by simp)
                  have A2 := fun n : After [] w3 => n.cell t2 (by simp)
                  have B0 := fun n : After [] w3 => n.cell u0 (by simp)
                  have B1 := fun n : After [] w3 => n.cell u1 (by simp)
                  have B2 := fun n : After [] w3 => n.cell u2 (by simp)
                  refine wp_region_after [] (by kernel_rfl) (by kernel_rfl) ?_
                  repeat (go_big_quiet_step (first
                    | (go_at_call 16; with_reducible exact After.quiet (c3.out _))
                    | (go_at_call 16; with_reducible exact After.quiet (c4.out _))))
                  refine wpQuiet_nil ?_
                  rintro _ ⟨nq, rfl⟩
                  go_wp2
                  go_ret
                  exact ⟨rfl, (HF.out.trans nq.fr (by simp)).below (Nat.le_refl _) (by simp)⟩
                · have d1 : decide (sa < sb) = false := by rw [decide_eq_false_iff_not]; omega
                  have d2 : (sa == sb) = true := by rw [beq_iff_eq]; omega
                  have d3 : decide (ra < rb) = false := by rw [decide_eq_false_iff_not]; omega
                  have d4 : (ra == rb) = true := by rw [beq_iff_eq]; omega
                  have d5 : decide (ha < hb) = false := by rw [decide_eq_false_iff_not]; omega
                  have e1 : decide (x < y) = false := by rw [decide_eq_false_iff_not]; have h := rises hm hn; rw [← hx, ← hy] at h; omega
                  have e2 : (x == y) = true := by rw [beq_iff_eq]; have h := rises hm hn; rw [← hx, ← hy] at h; omega
                  have E : ∀ X, (binOp .eql 28 (.agg #[.int .i64 sa, .int .i64 ra, .int .i64 ha]) (.agg #[.int .i64 sb, .int .i64 rb, .int .i64 hb])).run Try.prog X = .ok (.bool true) X := by intro X; rw [eq_hd2]; simp <;> omega
                  clear hn hm hx hy
                  go_wp2_with fail
                  have A0 := fun n : After [] w3 => n.cell t0 (by simp)
                  have A1 := fun n : After [] w3 => n.cell t1 (by simp)
                  have A2 := fun n : After [] w3 => n.cell t2 (by simp)
                  have B0 := fun n : After [] w3 => n.cell u0 (by simp)
                  have B1 := fun n : After [] w3 => n.cell u1 (by simp)
                  have B2 := fun n : After [] w3 => n.cell u2 (by simp)
                  refine wp_region_after [] (by kernel_rfl) (by kernel_rfl) ?_
                  repeat (go_big_quiet_step (first
                    | (go_at_call 16; with_reducible exact After.quiet (c3.out _))
                    | (go_at_call 16; with_reducible exact After.quiet (c4.out _))))
                  refine wpQuiet_nil ?_
                  rintro _ ⟨nq, rfl⟩
                  go_wp2
                  go_ret
                  exact ⟨rfl, (HF.out.trans nq.fr (by simp)).below (Nat.le_refl _) (by simp)⟩
    · have hn : mayW sb rb hb = false := by simpa using hn
      rw [hn]
      go_wp2
      go_ret
      exact ⟨rfl, HF.out.below (Nat.le_refl _) (by simp)⟩
  · have hm : mayW sa ra ha = false := by simpa using hm
    rw [hm]
    go_wp2
    go_ret
    exact ⟨rfl, HF.out.below (Nat.le_refl _) (by simp)⟩

set_option maxRecDepth 100000 in
theorem contract (H : Type) (enc : TypeId × Value → H) (W : World) (base : Nat) (args : Array Value) (ds gs : List (DataW H)) (before : List MemPlace)
    (hval0 : ∀ (j : Nat) t v, Try.f7.params[j]? = some t → args[j]? = some v → Value.okWide Try.prog W .any base t v)
    (hW : DataW.Whole enc Try.prog Try.f7.params.toList Rows.wordRisesSpec.vars false W args.toList ds gs before) :
    Calls Try.prog 7 args W fun e W' => ∃ v, e = .returned v ∧ Rows.wordRisesSpec.post enc Try.prog Try.f7 false true false false W args v W' := by
  have hval : ∀ (j : Nat) t v, Try.f7.params[j]? = some t → args[j]? = some v → Value.okWide Try.prog W .any base t v := hval0
  have hW' := hW
  obtain ⟨p, q, hA0, hV, rfl, hfz, hnd⟩ := hW
  have hA : DataW.TrodAll enc Try.prog W 0 (fun _ => true) true Try.f7.params.toList args.toList ds p := hA0
  rw [Try.params7] at hA hval
  obtain ⟨v0, vs0, d0, ds0, p0, q0, hargs, rfl, rfl, h0, r0⟩ := trodAll_cons hA
  obtain ⟨v1, vs1, d1, ds1, p1, q1, rfl, rfl, rfl, h1, r1⟩ := trodAll_cons r0
  obtain ⟨rfl, rfl, rfl⟩ := trodAll_nil r1
  obtain rfl : args = #[v0, v1] := by cases args; simp_all
  obtain ⟨rfl, rfl⟩ := trodVars_none hV
  have k0 := h0
  have lt0 : ∀ x ∈ p0, x.block < W.heap.size := by obtain ⟨m, hm⟩ := k0; exact DataW.trod_lt m _ _ _ hm
  have k1 := h1
  have lt1 : ∀ x ∈ p1, x.block < W.heap.size := by obtain ⟨m, hm⟩ := k1; exact DataW.trod_lt m _ _ _ hm
  obtain ⟨sa, ra, ha, rfl, wa⟩ := open_hd (hval 0 28 v0 rfl rfl) h0
  obtain ⟨sb, rb, hb, rfl, wb⟩ := open_hd (hval 1 28 v1 rfl rfl) h1
  clear hA0 hval0 hval
  refine (walk sa ra ha sb rb hb W).mono fun e W' ⟨he, bel⟩ => ?_
  subst he
  exact ⟨_, rfl, _, _, _, [], _, [], hW', trodAll_mk1 (shut_bool Try.underlying4 _), (trodAll_cons_mk (Below.trod laid_prog (by kernel_rfl) (of_decide_eq_true (by kernel_rfl)) k0 bel lt0) (trodAll_cons_mk (Below.trod laid_prog (by kernel_rfl) (of_decide_eq_true (by kernel_rfl)) k1 bel lt1) trodAll_mk0)), rfl, bel.frame _, fun h => by cases h⟩

set_option maxRecDepth 100000 in
theorem lifted (os : Os) (started : os.Started) (H : Type) (enc : TypeId × Value → H) :
    ReturnsInHanded {} Try.checked os 7 .any (Rows.wordRisesSpec.pre6 enc Try.prog Try.f7 Rows.wordRisesRow.domain false) (Rows.wordRisesSpec.post enc Try.prog Try.f7 false true false false) := by
  refine returnsInHanded_of_change (C := Try.checked) own_prog started (by kernel_rfl) Try.func7
    (ChangeSpec.witness6 (enc := enc) (C := Try.checked) false ⟨#[], #[.agg #[.int .i64 0, .int .i64 0, .int .i64 0], .agg #[.int .i64 0, .int .i64 0, .int .i64 0]], []⟩ 8 (by kernel_rfl) (by kernel_rfl) (by kernel_rfl) (by kernel_rfl)) ?_
  intro W base args ds gs before hval hW _ _
  exact contract H enc W base args ds gs before hval hW

theorem proved : Rows.WordRisesSaid :=
  OpenClaim.holds_of_wide 7 Try.f7 rfl rfl rfl rfl rfl rfl rfl ⟨rfl, rfl, rfl, rfl, rfl⟩ rfl rfl rfl rfl rfl (by kernel_rfl) Try.func7 (by kernel_rfl)
    (of_decide_eq_true (by kernel_rfl)) (by unfold Func.isWrapper; first | (rw [if_pos (by decide +kernel)]; kernel_rfl) | (rw [if_neg (by decide +kernel)]; exact ⟨rfl, rfl⟩))
    (fun os started H enc _ => lifted os started H enc)

end Go.Proofs.Ytbfgofalgjamaaa.lawWordRises
