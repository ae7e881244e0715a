/- Two states, with what is done, have one word just if they are the same: for every two pairs. No condition. -/
import Derived.Test.YtbfgofalgjamaaaWdLaw
namespace Go.Proofs.Ytbfgofalgjamaaa.lawWordOnes
open Go.ChangeShapes Go.WideShapes Go.ChangeAt Go.RowKit Go.Deep Go.ChangeMaps
set_option linter.unusedVariables false
set_option linter.unusedSimpArgs false

set_option maxRecDepth 100000 in
set_option maxHeartbeats 40000000 in
theorem walk (sa ia sb ib : Int) (w : World) (wa : (0 ≤ sa ∧ sa < 4294967296) ∧ 0 ≤ ia ∧ ia < 4294967296) (wb : (0 ≤ sb ∧ sb < 4294967296) ∧ 0 ≤ ib ∧ ib < 4294967296) :
    Calls Try.prog 8 #[.agg #[.int .u32 sa, .int .u32 ia], .agg #[.int .u32 sb, .int .u32 ib]] w fun e w' => e = .returned (.bool true) ∧ Below w.heap.size w w' := by
  obtain ⟨x, hx⟩ : ∃ x, x = packW (sa % 4) ia := ⟨_, rfl⟩
  obtain ⟨y, hy⟩ : ∃ y, y = packW (sb % 4) ib := ⟨_, rfl⟩
  have x0 : IsU x := hx ▸ isU_packW _ _
  have c1 : CW 10 #[.int .i64 (sa % 4), .int .i64 ia] (.int .u64 x) := to_fr fun W => by have h := wd_pack (sa % 4) ia W; rw [← hx] at h; exact h
  have c2 : CW 10 #[.int .i64 (sb % 4), .int .i64 ib] (.int .u64 y) := to_fr fun W => by have h := wd_pack (sb % 4) ib W; rw [← hy] at h; exact h
  have c3 : CW 12 #[.int .u64 x] (.int .i64 (x % 4)) := to_fr fun W => wd_state x W x0
  have y1 : wrap64 (sa % 4) = sa % 4 := w64 (by omega) (by omega)
  have y2 : wrap64 (sb % 4) = sb % 4 := w64 (by omega) (by omega)
  have y3 : wrap64 ia = ia := w64 (by omega) (by omega)
  have y4 : wrap64 ib = ib := w64 (by omega) (by omega)
  have s0 := wa.1.1
  have s1 := wb.1.1
  clear x0
  have HF := Lib.hid (((Fr.refl [] w).alloc (.cells #[.int .u32 sa, .int .u32 ia] 36)).alloc (.cells #[.int .u32 sb, .int .u32 ib] 36))
  have HX := Lib.hid (((Fr.refl [] _).alloc (.cells #[.int .u32 sb, .int .u32 ib] 36)).keep (new_block w (.cells #[.int .u32 sa, .int .u32 ia] 36)) (by simp))
  have HY := Lib.hid (new_block (w.alloc (.cells #[.int .u32 sa, .int .u32 ia] 36)) (.cells #[.int .u32 sb, .int .u32 ib] 36))
  rw [show (w.alloc (.cells #[.int .u32 sa, .int .u32 ia] 36)).heap.size = w.heap.size + 1 by simp] at HY
  go_enter Try.func8, Try.ntmps8
  go_wp2_with (go_at_call 9; refine go_stop ?_)
  unfold Stop
  refine (wd_awake _).mono ?_
  rintro e w1 ⟨rfl, hw⟩
  replace HF := Lib.hid (HF.out.trans hw (by simp))
  replace HX := Lib.hid (hw.keep HX.out (by simp))
  replace HY := Lib.hid (hw.keep HY.out (by simp))
  clear hw
  obtain ⟨t0, t1, _⟩ := cells2 HX.out
  obtain ⟨u0, u1, _⟩ := cells2 HY.out
  go_wp2_with (go_at_call 10; refine go_stop ?_)
  unfold Stop
  clear t0 t1 u0 u1
  refine (c1.out _).mono ?_
  rintro e w2 ⟨rfl, hw⟩
  dsimp only
  replace HF := Lib.hid (HF.out.trans hw (by simp))
  replace HX := Lib.hid (hw.keep HX.out (by simp))
  replace HY := Lib.hid (hw.keep HY.out (by simp))
  clear hw
  obtain ⟨t0, t1, _⟩ := cells2 HX.out
  obtain ⟨u0, u1, _⟩ := cells2 HY.out
  go_wp2_with (go_at_call 10; refine go_stop ?_)
  unfold Stop
  clear t0 t1 u0 u1
  refine (c2.out _).mono ?_
  rintro e w3 ⟨rfl, hw⟩
  dsimp only
  replace HF := Lib.hid (HF.out.trans hw (by simp))
  replace HX := Lib.hid (hw.keep HX.out (by simp))
  replace HY := Lib.hid (hw.keep HY.out (by simp))
  clear hw
  obtain ⟨t0, t1, _⟩ := cells2 HX.out
  obtain ⟨u0, u1, _⟩ := cells2 HY.out
  clear c1 c2
  by_cases q0 : sa % 4 = sb % 4
  · by_cases q1 : ia = ib
    · by_cases q2 : sa % 4 = 0
      · have d1 : (sa % 4 == sb % 4) = true := by rw [beq_iff_eq]; omega
        have d2 : (ia == ib) = true := by rw [beq_iff_eq]; omega
        have d3 : (x == y) = true := by rw [beq_iff_eq]; have h := ones wa wb; rw [← hx, ← hy] at h; omega
        have d4 : (x % 4 == 0) = true := by rw [beq_iff_eq]; have h := ones wa wb; rw [← hx, ← hy] at h; omega
        have d5 : (sa % 4 == 0) = true := by rw [beq_iff_eq]; omega
        clear hx hy wa wb q0 q1 q2
        go_wp2_with fail
        have A0 := fun n : After [] w3 => n.cell t0 (by simp)
        have A1 := fun n : After [] w3 => n.cell t1 (by simp)
        have B0 := fun n : After [] w3 => n.cell u0 (by simp)
        have B1 := fun n : After [] w3 => n.cell u1 (by simp)
        refine wp_region_after [] (by kernel_rfl) (by kernel_rfl) ?_
        repeat (go_big_quiet_step (first
          | (go_at_call 12; with_reducible exact After.quiet (c3.out _))))
        refine wpQuiet_nil ?_
        rintro _ ⟨nq, rfl⟩
        go_wp2
        go_ret
        exact ⟨rfl, (HF.out.trans nq.fr (by simp)).below (Nat.le_refl _) (by simp)⟩
      · have d1 : (sa % 4 == sb % 4) = true := by rw [beq_iff_eq]; omega
        have d2 : (ia == ib) = true := by rw [beq_iff_eq]; omega
        have d3 : (x == y) = true := by rw [beq_iff_eq]; have h := ones wa wb; rw [← hx, ← hy] at h; omega
        have d4 : (x % 4 == 0) = false := by rw [beq_eq_false_iff_ne]; intro hq; have h := ones wa wb; rw [← hx, ← hy] at h; omega
        have d5 : (sa % 4 == 0) = false := by rw [beq_eq_false_iff_ne]; intro hq; omega
        clear hx hy wa wb q0 q1 q2
        go_wp2_with fail
        have A0 := fun n : After [] w3 => n.cell t0 (by simp)
        have A1 := fun n : After [] w3 => n.cell t1 (by simp)
        have B0 := fun n : After [] w3 => n.cell u0 (by simp)
        have B1 := fun n : After [] w3 => n.cell u1 (by simp)
        refine wp_region_after [] (by kernel_rfl) (by kernel_rfl) ?_
        repeat (go_big_quiet_step (first
          | (go_at_call 12; with_reducible exact After.quiet (c3.out _))))
        refine wpQuiet_nil ?_
        rintro _ ⟨nq, rfl⟩
        go_wp2
        go_ret
        exact ⟨rfl, (HF.out.trans nq.fr (by simp)).below (Nat.le_refl _) (by simp)⟩
    · by_cases q2 : sa % 4 = 0
      · have d1 : (sa % 4 == sb % 4) = true := by rw [beq_iff_eq]; omega
        have d2 : (ia == ib) = false := by rw [beq_eq_false_iff_ne]; intro hq; omega
        have d3 : (x == y) = false := by rw [beq_eq_false_iff_ne]; intro hq; have h := ones wa wb; rw [← hx, ← hy] at h; omega
        have d4 : (x % 4 == 0) = true := by rw [beq_iff_eq]; have h := ones wa wb; rw [← hx, ← hy] at h; omega
        have d5 : (sa % 4 == 0) = true := by rw [beq_iff_eq]; omega
        clear hx hy wa wb q0 q1 q2
        go_wp2_with fail
        have A0 := fun n : After [] w3 => n.cell t0 (by simp)
        have A1 := fun n : After [] w3 => n.cell t1 (by simp)
        have B0 := fun n : After [] w3 => n.cell u0 (by simp)
        have B1 := fun n : After [] w3 => n.cell u1 (by simp)
        refine wp_region_after [] (by kernel_rfl) (by kernel_rfl) ?_
        repeat (go_big_quiet_step (first
          | (go_at_call 12; with_reducible exact After.quiet (c3.out _))))
        refine wpQuiet_nil ?_
        rintro _ ⟨nq, rfl⟩
        go_wp2
        go_ret
        exact ⟨rfl, (HF.out.trans nq.fr (by simp)).below (Nat.le_refl _) (by simp)⟩
      · have d1 : (sa % 4 == sb % 4) = true := by rw [beq_iff_eq]; omega
        have d2 : (ia == ib) = false := by rw [beq_eq_false_iff_ne]; intro hq; omega
        have d3 : (x == y) = false := by rw [beq_eq_false_iff_ne]; intro hq; have h := ones wa wb; rw [← hx, ← hy] at h; omega
        have d4 : (x % 4 == 0) = false := by rw [beq_eq_false_iff_ne]; intro hq; have h := ones wa wb; rw [← hx, ← hy] at h; omega
        have d5 : (sa % 4 == 0) = false := by rw [beq_eq_false_iff_ne]; intro hq; omega
        clear hx hy wa wb q0 q1 q2
        go_wp2_with fail
        have A0 := fun n : After [] w3 => n.cell t0 (by simp)
        have A1 := fun n : After [] w3 => n.cell t1 (by simp)
        have B0 := fun n : After [] w3 => n.cell u0 (by simp)
        have B1 := fun n : After [] w3 => n.cell u1 (by simp)
        refine wp_region_after [] (by kernel_rfl) (by kernel_rfl) ?_
        repeat (go_big_quiet_step (first
          | (go_at_call 12; with_reducible exact After.quiet (c3.out _))))
        refine wpQuiet_nil ?_
        rintro _ ⟨nq, rfl⟩
        go_wp2
        go_ret
        exact ⟨rfl, (HF.out.trans nq.fr (by simp)).below (Nat.le_refl _) (by simp)⟩
  · by_cases q1 : ia = ib
    · by_cases q2 : sa % 4 = 0
      · have d1 : (sa % 4 == sb % 4) = false := by rw [beq_eq_false_iff_ne]; intro hq; omega
        have d2 : (ia == ib) = true := by rw [beq_iff_eq]; omega
        have d3 : (x == y) = false := by rw [beq_eq_false_iff_ne]; intro hq; have h := ones wa wb; rw [← hx, ← hy] at h; omega
        have d4 : (x % 4 == 0) = true := by rw [beq_iff_eq]; have h := ones wa wb; rw [← hx, ← hy] at h; omega
        have d5 : (sa % 4 == 0) = true := by rw [beq_iff_eq]; omega
        clear hx hy wa wb q0 q1 q2
        go_wp2_with fail
        have A0 := fun n : After [] w3 => n.cell t0 (by simp)
        have A1 := fun n : After [] w3 => n.cell t1 (by simp)
        have B0 := fun n : After [] w3 => n.cell u0 (by simp)
        have B1 := fun n : After [] w3 => n.cell u1 (by simp)
        refine wp_region_after [] (by kernel_rfl) (by kernel_rfl) ?_
        repeat (go_big_quiet_step (first
          | (go_at_call 12; with_reducible exact After.quiet (c3.out _))))
        refine wpQuiet_nil ?_
        rintro _ ⟨nq, rfl⟩
        go_wp2
        go_ret
        exact ⟨rfl, (HF.out.trans nq.fr (by simp)).below (Nat.le_refl _) (by simp)⟩
      · have d1 : (sa % 4 == sb % 4) = false := by rw [beq_eq_false_iff_ne]; intro hq; omega
        have d2 : (ia == ib) = true := by rw [beq_iff_eq]; omega
        have d3 : (x == y) = false := by rw [beq_eq_false_iff_ne]; intro hq; have h := ones wa wb; rw [← hx, ← hy] at h; omega
        have d4 : (x % 4 == 0) = false := by rw [beq_eq_false_iff_ne]; intro hq; have h := ones wa wb; rw [← hx, ← hy] at h; omega
        have d5 : (sa % 4 == 0) = false := by rw [beq_eq_false_iff_ne]; intro hq; omega
        clear hx hy wa wb q0 q1 q2
        go_wp2_with fail
        have A0 := fun n : After [] w3 => n.cell t0 (by simp)
        have A1 := fun n : After [] w3 => n.cell t1 (by simp)
        have B0 := fun n : After [] w3 => n.cell u0 (by simp)
        have B1 := fun n : After [] w3 => n.cell u1 (by simp)
        refine wp_region_after [] (by kernel_rfl) (by kernel_rfl) ?_
        repeat (go_big_quiet_step (first
          | (go_at_call 12; with_reducible exact After.quiet (c3.out _))))
        refine wpQuiet_nil ?_
        rintro _ ⟨nq, rfl⟩
        go_wp2
        go_ret
        exact ⟨rfl, (HF.out.trans nq.fr (by simp)).below (Nat.le_refl _) (by simp)⟩
    · by_cases q2 : sa % 4 = 0
      · have d1 : (sa % 4 == sb % 4) = false := by rw [beq_eq_false_iff_ne]; intro hq; omega
        have d2 : (ia == ib) = false := by rw [beq_eq_false_iff_ne]; intro hq; omega
        have d3 : (x == y) = false := by rw [beq_eq_false_iff_ne]; intro hq; have h := ones wa wb; rw [← hx, ← hy] at h; omega
        have d4 : (x % 4 == 0) = true := by rw [beq_iff_eq]; have h := ones wa wb; rw [← hx, ← hy] at h; omega
        have d5 : (sa % 4 == 0) = true := by rw [beq_iff_eq]; omega
        clear hx hy wa wb q0 q1 q2
        go_wp2_with fail
        have A0 := fun n : After [] w3 => n.cell t0 (by simp)
        have A1 := fun n : After [] w3 => n.cell t1 (by simp)
        have B0 := fun n : After [] w3 => n.cell u0 (by simp)
        have B1 := fun n : After [] w3 => n.cell u1 (by simp)
        refine wp_region_after [] (by kernel_rfl) (by kernel_rfl) ?_
        repeat (go_big_quiet_step (first
          | (go_at_call 12; with_reducible exact After.quiet (c3.out _))))
        refine wpQuiet_nil ?_
        rintro _ ⟨nq, rfl⟩
        go_wp2
        go_ret
        exact ⟨rfl, (HF.out.trans nq.fr (by simp)).below (Nat.le_refl _) (by simp)⟩
      · have d1 : (sa % 4 == sb % 4) = false := by rw [beq_eq_false_iff_ne]; intro hq; omega
        have d2 : (ia == ib) = false := by rw [beq_eq_false_iff_ne]; intro hq; omega
        have d3 : (x == y) = false := by rw [beq_eq_false_iff_ne]; intro hq; have h := ones wa wb; rw [← hx, ← hy] at h; omega
        have d4 : (x % 4 == 0) = false := by rw [beq_eq_false_iff_ne]; intro hq; have h := ones wa wb; rw [← hx, ← hy] at h; omega
        have d5 : (sa % 4 == 0) = false := by rw [beq_eq_false_iff_ne]; intro hq; omega
        clear hx hy wa wb q0 q1 q2
        go_wp2_with fail
        have A0 := fun n : After [] w3 => n.cell t0 (by simp)
        have A1 := fun n : After [] w3 => n.cell t1 (by simp)
        have B0 := fun n : After [] w3 => n.cell u0 (by simp)
        have B1 := fun n : After [] w3 => n.cell u1 (by simp)
        refine wp_region_after [] (by kernel_rfl) (by kernel_rfl) ?_
        repeat (go_big_quiet_step (first
          | (go_at_call 12; with_reducible exact After.quiet (c3.out _))))
        refine wpQuiet_nil ?_
        rintro _ ⟨nq, rfl⟩
        go_wp2
        go_ret
        exact ⟨rfl, (HF.out.trans nq.fr (by simp)).below (Nat.le_refl _) (by simp)⟩

set_option maxRecDepth 100000 in
theorem contract (H : Type) (enc : TypeId × Value → H) (W : World) (base : Nat) (args : Array Value) (ds gs : List (DataW H)) (before : List MemPlace)
    (hval0 : ∀ (j : Nat) t v, Try.f8.params[j]? = some t → args[j]? = some v → Value.okWide Try.prog W .any base t v)
    (hW : DataW.Whole enc Try.prog Try.f8.params.toList Rows.wordOnesSpec.vars false W args.toList ds gs before) :
    Calls Try.prog 8 args W fun e W' => ∃ v, e = .returned v ∧ Rows.wordOnesSpec.post enc Try.prog Try.f8 false true false false W args v W' := by
  have hval : ∀ (j : Nat) t v, Try.f8.params[j]? = some t → args[j]? = some v → Value.okWide Try.prog W .any base t v := hval0
  have hW' := hW
  obtain ⟨p, q, hA0, hV, rfl, hfz, hnd⟩ := hW
  have hA : DataW.TrodAll enc Try.prog W 0 (fun _ => true) true Try.f8.params.toList args.toList ds p := hA0
  rw [Try.params8] at hA hval
  obtain ⟨v0, vs0, d0, ds0, p0, q0, hargs, rfl, rfl, h0, r0⟩ := trodAll_cons hA
  obtain ⟨v1, vs1, d1, ds1, p1, q1, rfl, rfl, rfl, h1, r1⟩ := trodAll_cons r0
  obtain ⟨rfl, rfl, rfl⟩ := trodAll_nil r1
  obtain rfl : args = #[v0, v1] := by cases args; simp_all
  obtain ⟨rfl, rfl⟩ := trodVars_none hV
  have k0 := h0
  have lt0 : ∀ x ∈ p0, x.block < W.heap.size := by obtain ⟨m, hm⟩ := k0; exact DataW.trod_lt m _ _ _ hm
  have k1 := h1
  have lt1 : ∀ x ∈ p1, x.block < W.heap.size := by obtain ⟨m, hm⟩ := k1; exact DataW.trod_lt m _ _ _ hm
  obtain ⟨sa, ia, rfl, wa⟩ := open_pair (hval 0 36 v0 rfl rfl) h0
  obtain ⟨sb, ib, rfl, wb⟩ := open_pair (hval 1 36 v1 rfl rfl) h1
  clear hA0 hval0 hval
  refine (walk sa ia sb ib W wa wb).mono fun e W' ⟨he, bel⟩ => ?_
  subst he
  exact ⟨_, rfl, _, _, _, [], _, [], hW', trodAll_mk1 (shut_bool Try.underlying4 _), (trodAll_cons_mk (Below.trod laid_prog (by kernel_rfl) (of_decide_eq_true (by kernel_rfl)) k0 bel lt0) (trodAll_cons_mk (Below.trod laid_prog (by kernel_rfl) (of_decide_eq_true (by kernel_rfl)) k1 bel lt1) trodAll_mk0)), rfl, bel.frame _, fun h => by cases h⟩

set_option maxRecDepth 100000 in
theorem lifted (os : Os) (started : os.Started) (H : Type) (enc : TypeId × Value → H) :
    ReturnsInHanded {} Try.checked os 8 .any (Rows.wordOnesSpec.pre6 enc Try.prog Try.f8 Rows.wordOnesRow.domain false) (Rows.wordOnesSpec.post enc Try.prog Try.f8 false true false false) := by
  refine returnsInHanded_of_change (C := Try.checked) own_prog started (by kernel_rfl) Try.func8
    (ChangeSpec.witness6 (enc := enc) (C := Try.checked) false ⟨#[], #[.agg #[.int .u32 0, .int .u32 0], .agg #[.int .u32 0, .int .u32 0]], []⟩ 8 (by kernel_rfl) (by kernel_rfl) (by kernel_rfl) (by kernel_rfl)) ?_
  intro W base args ds gs before hval hW _ _
  exact contract H enc W base args ds gs before hval hW

theorem proved : Rows.WordOnesSaid :=
  OpenClaim.holds_of_wide 8 Try.f8 rfl rfl rfl rfl rfl rfl rfl ⟨rfl, rfl, rfl, rfl, rfl⟩ rfl rfl rfl rfl rfl (by kernel_rfl) Try.func8 (by kernel_rfl)
    (of_decide_eq_true (by kernel_rfl)) (by unfold Func.isWrapper; first | (rw [if_pos (by decide +kernel)]; kernel_rfl) | (rw [if_neg (by decide +kernel)]; exact ⟨rfl, rfl⟩))
    (fun os started H enc _ => lifted os started H enc)

end Go.Proofs.Ytbfgofalgjamaaa.lawWordOnes
