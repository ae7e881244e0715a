/- Any head as a word, any word's head, and whether any may be: as the document says, for every head and word. No condition. -/
import Derived.Test.YtbfgofalgjamaaaWdLaw
namespace Go.Proofs.Ytbfgofalgjamaaa.lawWordHeads
open Go.ChangeShapes Go.WideShapes Go.ChangeAt Go.RowKit Go.Deep Go.ChangeMaps
set_option linter.unusedVariables false
set_option linter.unusedSimpArgs false

set_option maxRecDepth 100000 in
set_option maxHeartbeats 40000000 in
theorem walk (sa ra ha n : Int) (w : World) (wn : IsU n) :
    Calls Try.prog 4 #[hdV sa ra ha, .int .u64 n] w fun e w' => e = .returned (.bool true) ∧ Below w.heap.size w w' := by
  have c1 : CW 16 #[.agg #[.int .i64 sa, .int .i64 ra, .int .i64 ha]] (.int .u64 (headW sa ra ha)) := ⟨fun W => wd_head sa ra ha W⟩
  have c2 : CW 17 #[.agg #[.int .i64 sa, .int .i64 ra, .int .i64 ha]] (.int .u64 (headW sa ra ha)) := ⟨fun W => rwd_head sa ra ha W⟩
  have c3 : CW 18 #[.int .u64 n] (.agg #[.int .i64 (n / 1099511627776), .int .i64 (n / 1048576 % 1048576), .int .i64 (n % 1048576)]) := ⟨fun W => wd_open n W wn⟩
  have c4 : CW 19 #[.int .u64 n] (.agg #[.int .i64 (n / 1099511627776), .int .i64 (n / 1048576 % 1048576), .int .i64 (n % 1048576)]) := ⟨fun W => rwd_open n W wn⟩
  have c5 : CW 20 #[.agg #[.int .i64 sa, .int .i64 ra, .int .i64 ha]] (.bool (mayW sa ra ha)) := ⟨fun W => wd_may sa ra ha W⟩
  have c6 : CW 21 #[.agg #[.int .i64 sa, .int .i64 ra, .int .i64 ha]] (.bool (mayW sa ra ha)) := ⟨fun W => rwd_may sa ra ha W⟩
  generalize headW sa ra ha = x at c1 c2
  generalize mayW sa ra ha = y at c5 c6
  generalize n / 1099511627776 = z0 at c3 c4
  generalize n / 1048576 % 1048576 = z1 at c3 c4
  generalize n % 1048576 = z2 at c3 c4
  have E := eq_hd z0 z1 z2
  clear wn
  unfold hdV
  have HF := Lib.hid ((Fr.refl [] w).alloc (.cells #[.int .i64 sa, .int .i64 ra, .int .i64 ha] 28))
  have HB := Lib.hid (new_block w (.cells #[.int .i64 sa, .int .i64 ra, .int .i64 ha] 28))
  go_enter Try.func4, Try.ntmps4
  go_wp2_with (go_at_call 9; refine go_stop ?_)
  unfold Stop
  refine (wd_awake _).mono ?_
  rintro e w1 ⟨rfl, hw⟩
  replace HF := Lib.hid (HF.out.trans hw (by simp))
  replace HB := Lib.hid (hw.keep HB.out (by simp))
  clear hw
  obtain ⟨t0, t1, t2, _⟩ := cells3 HB.out
  go_wp2_with fail
  have A0 := fun n : After [] w1 => n.cell t0 (by simp)
  have A1 := fun n : After [] w1 => n.cell t1 (by simp)
  have A2 := fun n : After [] w1 => n.cell t2 (by simp)
  refine wp_region_after [] (by kernel_rfl) (by kernel_rfl) ?_
  repeat (go_big_quiet_step (first
    | (go_at_call 16; with_reducible exact After.quiet (c1.out _))
    | (go_at_call 17; with_reducible exact After.quiet (c2.out _))
    | (go_at_call 18; with_reducible exact After.quiet (c3.out _))
    | (go_at_call 19; with_reducible exact After.quiet (c4.out _))
    | (go_at_call 20; with_reducible exact After.quiet (c5.out _))
    | (go_at_call 21; with_reducible exact After.quiet (c6.out _))))
  refine wpQuiet_nil ?_
  rintro _ ⟨nq, rfl⟩
  go_wp2
  go_ret
  exact ⟨rfl, (HF.out.trans nq.fr (by simp)).below (Nat.le_refl _) (by simp)⟩

set_option maxRecDepth 100000 in
theorem contract (H : Type) (enc : TypeId × Value → H) (W : World) (base : Nat) (args : Array Value) (ds gs : List (DataW H)) (before : List MemPlace)
    (hval0 : ∀ (j : Nat) t v, Try.f4.params[j]? = some t → args[j]? = some v → Value.okWide Try.prog W .any base t v)
    (hW : DataW.Whole enc Try.prog Try.f4.params.toList Rows.wordHeadsSpec.vars false W args.toList ds gs before) :
    Calls Try.prog 4 args W fun e W' => ∃ v, e = .returned v ∧ Rows.wordHeadsSpec.post enc Try.prog Try.f4 false true false false W args v W' := by
  have hval : ∀ (j : Nat) t v, Try.f4.params[j]? = some t → args[j]? = some v → Value.okWide Try.prog W .any base t v := hval0
  have hW' := hW
  obtain ⟨p, q, hA0, hV, rfl, hfz, hnd⟩ := hW
  have hA : DataW.TrodAll enc Try.prog W 0 (fun _ => true) true Try.f4.params.toList args.toList ds p := hA0
  rw [Try.params4] at hA hval
  obtain ⟨v0, vs0, d0, ds0, p0, q0, hargs, rfl, rfl, h0, r0⟩ := trodAll_cons hA
  obtain ⟨v1, vs1, d1, ds1, p1, q1, rfl, rfl, rfl, h1, r1⟩ := trodAll_cons r0
  obtain ⟨rfl, rfl, rfl⟩ := trodAll_nil r1
  obtain rfl : args = #[v0, v1] := by cases args; simp_all
  obtain ⟨rfl, rfl⟩ := trodVars_none hV
  have k0 := h0
  have lt0 : ∀ x ∈ p0, x.block < W.heap.size := by obtain ⟨m, hm⟩ := k0; exact DataW.trod_lt m _ _ _ hm
  have k1 := h1
  have lt1 : ∀ x ∈ p1, x.block < W.heap.size := by obtain ⟨m, hm⟩ := k1; exact DataW.trod_lt m _ _ _ hm
  obtain ⟨sa, ra, ha, rfl, wa⟩ := open_hd (hval 0 28 v0 rfl rfl) h0
  obtain ⟨n, rfl, _, _, xn⟩ := open_int Try.underlying22 (hval 1 22 v1 rfl rfl) h1
  have wn := isU_of xn
  clear hA0 hval0 hval
  refine (walk sa ra ha n W wn).mono fun e W' ⟨he, bel⟩ => ?_
  subst he
  exact ⟨_, rfl, _, _, _, [], _, [], hW', trodAll_mk1 (shut_bool Try.underlying4 _), (trodAll_cons_mk (Below.trod laid_prog (by kernel_rfl) (of_decide_eq_true (by kernel_rfl)) k0 bel lt0) (trodAll_cons_mk (Below.trod laid_prog (by kernel_rfl) (of_decide_eq_true (by kernel_rfl)) k1 bel lt1) trodAll_mk0)), rfl, bel.frame _, fun h => by cases h⟩

set_option maxRecDepth 100000 in
theorem lifted (os : Os) (started : os.Started) (H : Type) (enc : TypeId × Value → H) :
    ReturnsInHanded {} Try.checked os 4 .any (Rows.wordHeadsSpec.pre6 enc Try.prog Try.f4 Rows.wordHeadsRow.domain false) (Rows.wordHeadsSpec.post enc Try.prog Try.f4 false true false false) := by
  refine returnsInHanded_of_change (C := Try.checked) own_prog started (by kernel_rfl) Try.func4
    (ChangeSpec.witness6 (enc := enc) (C := Try.checked) false ⟨#[], #[.agg #[.int .i64 0, .int .i64 0, .int .i64 0], .int .u64 0], []⟩ 8 (by kernel_rfl) (by kernel_rfl) (by kernel_rfl) (by kernel_rfl)) ?_
  intro W base args ds gs before hval hW _ _
  exact contract H enc W base args ds gs before hval hW

theorem proved : Rows.WordHeadsSaid :=
  OpenClaim.holds_of_wide 4 Try.f4 rfl rfl rfl rfl rfl rfl rfl ⟨rfl, rfl, rfl, rfl, rfl⟩ rfl rfl rfl rfl rfl (by kernel_rfl) Try.func4 (by kernel_rfl)
    (of_decide_eq_true (by kernel_rfl)) (by unfold Func.isWrapper; first | (rw [if_pos (by decide +kernel)]; kernel_rfl) | (rw [if_neg (by decide +kernel)]; exact ⟨rfl, rfl⟩))
    (fun os started H enc _ => lifted os started H enc)

end Go.Proofs.Ytbfgofalgjamaaa.lawWordHeads
