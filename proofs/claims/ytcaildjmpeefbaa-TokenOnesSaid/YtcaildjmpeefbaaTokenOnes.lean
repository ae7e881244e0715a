/- Two tokens that may be have one text just if they are the same: for every two tokens. No condition. -/
import Derived.Test.YtcaildjmpeefbaaTkEq
import Derived.Test.YtcaildjmpeefbaaTkLaw
import Derived.Test.YtcaildjmpeefbaaKeyLaw
namespace Go.Proofs.Ytcaildjmpeefbaa.lawTokenOnes
open Go.ChangeShapes Go.WideShapes Go.ChangeAt Go.RowKit Go.Deep Go.ChangeMaps
set_option linter.unusedVariables false
set_option linter.unusedSimpArgs false

set_option maxRecDepth 100000 in
set_option maxHeartbeats 40000000 in
theorem walk (x y : Tk) (w : World) (fx : x.f.size ≤ maxLen) (tx : x.t.size ≤ maxLen) (nx : (Lit.int .i64 x.next).wf = true) (fy : y.f.size ≤ maxLen) (ty : y.t.size ≤ maxLen) (ny : (Lit.int .i64 y.next).wf = true) :
    Calls Try.prog 7 #[.agg #[.string x.f, .string x.t, .int .i64 x.next, .bool x.once], .agg #[.string y.f, .string y.t, .int .i64 y.next, .bool y.once]] w fun e w' => e = .returned (.bool true) ∧ Below w.heap.size w w' := by
  have HB := Lib.hid (((Fr.refl [] _).alloc (.cells #[.string y.f, .string y.t, .int .i64 y.next, .bool y.once] 25)).keep (new_block w (.cells #[.string x.f, .string x.t, .int .i64 x.next, .bool x.once] 25)) (by simp))
  have HC := Lib.hid (new_block (w.alloc (.cells #[.string x.f, .string x.t, .int .i64 x.next, .bool x.once] 25)) (.cells #[.string y.f, .string y.t, .int .i64 y.next, .bool y.once] 25))
  rw [show (w.alloc (.cells #[.string x.f, .string x.t, .int .i64 x.next, .bool x.once] 25)).heap.size = w.heap.size + 1 by simp] at HC
  have HF := Lib.hid (((Fr.refl [] w).alloc (.cells #[.string x.f, .string x.t, .int .i64 x.next, .bool x.once] 25)).alloc (.cells #[.string y.f, .string y.t, .int .i64 y.next, .bool y.once] 25))
  go_enter Try.func7, Try.ntmps7
  go_wp2_with (go_at_call 9; refine go_stop ?_)
  unfold Stop
  refine (tok_awake _).mono ?_
  rintro e w1 ⟨rfl, hw⟩
  replace HB := Lib.hid (hw.keep HB.out (by simp))
  replace HC := Lib.hid (hw.keep HC.out (by simp))
  replace HF := Lib.hid (HF.out.trans hw (by simp))
  clear hw
  obtain ⟨t0, t1, t2, t3, _⟩ := cells4 HB.out
  go_wp2_with (go_at_call 11; refine go_stop ?_)
  unfold Stop
  refine (tok_made x _).mono ?_
  rintro e w2 ⟨rfl, hw⟩
  unfold tkVal
  dsimp only
  replace HC := Lib.hid (hw.keep HC.out (by simp))
  replace HF := Lib.hid (HF.out.trans hw (by simp))
  clear hw HB t0 t1 t2 t3
  have hlt := HF.out.size
  have hc1 := lt_of_block HC.out
  have HX := Lib.hid (new_block w2 (.cells #[.string x.f, .string x.t, .int .i64 x.next, .bool x.once] 28))
  replace HC := Lib.hid (((Fr.refl [] w2).alloc (.cells #[.string x.f, .string x.t, .int .i64 x.next, .bool x.once] 28)).keep HC.out (by simp))
  replace HF := Lib.hid (HF.out.alloc (.cells #[.string x.f, .string x.t, .int .i64 x.next, .bool x.once] 28))
  obtain ⟨t0, t1, t2, t3, _⟩ := cells4 HC.out
  go_wp2_with (go_at_call 11; refine go_stop ?_)
  unfold Stop
  generalize hW : w2.alloc (.cells #[.string x.f, .string x.t, .int .i64 x.next, .bool x.once] 28) = w3 at *
  refine (tok_made y _).mono ?_
  rintro e w4 ⟨rfl, hw⟩
  unfold tkVal
  dsimp only
  replace HX := Lib.hid (hw.keep HX.out (by simp))
  replace HF := Lib.hid (HF.out.trans hw (by simp))
  clear hw HC t0 t1 t2 t3 hW
  have hx1 := lt_of_block HX.out
  have HY := Lib.hid (new_block w4 (.cells #[.string y.f, .string y.t, .int .i64 y.next, .bool y.once] 28))
  replace HX := Lib.hid (((Fr.refl [] w4).alloc (.cells #[.string y.f, .string y.t, .int .i64 y.next, .bool y.once] 28)).keep HX.out (by simp))
  replace HF := Lib.hid (HF.out.alloc (.cells #[.string y.f, .string y.t, .int .i64 y.next, .bool y.once] 28))
  obtain ⟨t0, t1, t2, t3, _⟩ := cells4 HX.out
  have n1 : ¬ w4.heap.size = w2.heap.size := by omega
  have n2 : ¬ w2.heap.size = w4.heap.size := by omega
  go_wp2_with (go_at_call 10; refine go_stop ?_)
  unfold Stop
  clear t0 t1 t2 t3 n1 n2
  obtain ⟨k, hk⟩ : ∃ k, k = w4.heap.size := ⟨_, rfl⟩
  rw [← hk] at HY hx1 ⊢
  generalize w4.alloc (.cells #[.string y.f, .string y.t, .int .i64 y.next, .bool y.once] 28) = w5 at *
  clear hk
  refine (tok_may x _ fx tx).mono ?_
  rintro e w6 ⟨rfl, hw⟩
  dsimp only
  replace HX := Lib.hid (hw.keep HX.out (by simp))
  replace HY := Lib.hid (hw.keep HY.out (by simp))
  replace HF := Lib.hid (HF.out.trans hw (by simp))
  clear hw
  obtain ⟨t0, t1, t2, t3, _⟩ := cells4 HX.out
  obtain ⟨u0, u1, u2, u3, _⟩ := cells4 HY.out
  by_cases hm : mayT x = true
  · rw [hm]
    obtain ⟨a1, a2, a3, a4⟩ := mayT_size hm
    go_wp2_with (go_at_call 10; refine go_stop ?_)
    unfold Stop
    clear t0 t1 t2 t3 u0 u1 u2 u3
    refine (tok_may y _ fy ty).mono ?_
    rintro e w7 ⟨rfl, hw⟩
    dsimp only
    replace HX := Lib.hid (hw.keep HX.out (by simp))
    replace HY := Lib.hid (hw.keep HY.out (by simp))
    replace HF := Lib.hid (HF.out.trans hw (by simp))
    clear hw
    obtain ⟨t0, t1, t2, t3, _⟩ := cells4 HX.out
    obtain ⟨u0, u1, u2, u3, _⟩ := cells4 HY.out
    by_cases hn : mayT y = true
    · rw [hn]
      obtain ⟨b1, b2, b3, b4⟩ := mayT_size hn
      obtain ⟨z1, hz1⟩ : ∃ z, tkBa (putT x) = z := ⟨_, rfl⟩
      obtain ⟨z2, hz2⟩ : ∃ z, tkBa (putT y) = z := ⟨_, rfl⟩
      obtain ⟨q, hq⟩ : ∃ q, eqTk x y = q := ⟨_, rfl⟩
      have eqs := eq_tok x y
      have eqz := put_eq hm hn
      rw [hz1, hz2, hq] at eqz
      rw [hq] at eqs
      have HZ1 := Lib.hid hz1
      have HZ2 := Lib.hid hz2
      have HS := Lib.hid (show (x.f.size ≤ 1000000 ∧ x.t.size ≤ 1000000) ∧ y.f.size ≤ 1000000 ∧ y.t.size ≤ 1000000 by omega)
      have HNX := Lib.hid nx
      have HNY := Lib.hid ny
      have px : CV 13 #[.agg #[.string x.f, .string x.t, .int .i64 x.next, .bool x.once]] (.string z1) := ⟨fun W => by have h := tok_put x W HS.out.1.1 HS.out.1.2 nx; rw [HZ1.out] at h; exact h⟩
      have py : CV 13 #[.agg #[.string y.f, .string y.t, .int .i64 y.next, .bool y.once]] (.string z2) := ⟨fun W => by have h := tok_put y W HS.out.2.1 HS.out.2.2 ny; rw [HZ2.out] at h; exact h⟩
      clear hz1 hz2 hq nx ny a1 a2 a3 a4 b1 b2 b3 b4 fx tx fy ty hm hn hc1 hlt hx1
      have A0 := fun n : After [] w7 => n.cell t0 (by simp)
      have A1 := fun n : After [] w7 => n.cell t1 (by simp)
      have A2 := fun n : After [] w7 => n.cell t2 (by simp)
      have A3 := fun n : After [] w7 => n.cell t3 (by simp)
      have B0 := fun n : After [] w7 => n.cell u0 (by simp)
      have B1 := fun n : After [] w7 => n.cell u1 (by simp)
      have B2 := fun n : After [] w7 => n.cell u2 (by simp)
      have B3 := fun n : After [] w7 => n.cell u3 (by simp)
      go_wp2_with fail
      refine wp_region_after [] (by kernel_rfl) (by kernel_rfl) ?_
      repeat (go_big_quiet_step (first
        | (go_at_call 13; with_reducible exact After.quiet (px.out _))
        | (go_at_call 13; with_reducible exact After.quiet (py.out _))))
      refine wpQuiet_nil ?_
      rintro _ ⟨nq, rfl⟩
      go_wp2
      go_ret
      exact ⟨rfl, (HF.out.trans nq.fr (by simp)).below (Nat.le_refl _) (by simp)⟩
    · have hn : mayT y = false := by simpa using hn
      rw [hn]
      go_wp2
      go_ret
      exact ⟨rfl, HF.out.below (Nat.le_refl _) (by simp)⟩
  · have hm : mayT x = false := by simpa using hm
    rw [hm]
    go_wp2
    go_ret
    exact ⟨rfl, HF.out.below (Nat.le_refl _) (by simp)⟩

set_option maxRecDepth 100000 in
theorem contract (H : Type) (enc : TypeId × Value → H) (W : World) (base : Nat) (args : Array Value) (ds gs : List (DataW H)) (before : List MemPlace)
    (hval0 : ∀ (j : Nat) t v, Try.f7.params[j]? = some t → args[j]? = some v → Value.okWide Try.prog W .any base t v)
    (hW : DataW.Whole enc Try.prog Try.f7.params.toList Rows.tokenOnesSpec.vars false W args.toList ds gs before) :
    Calls Try.prog 7 args W fun e W' => ∃ v, e = .returned v ∧ Rows.tokenOnesSpec.post enc Try.prog Try.f7 false true false false W args v W' := by
  have hval : ∀ (j : Nat) t v, Try.f7.params[j]? = some t → args[j]? = some v → Value.okWide Try.prog W .any base t v := hval0
  have hW' := hW
  obtain ⟨p, q, hA0, hV, rfl, hfz, hnd⟩ := hW
  have hA : DataW.TrodAll enc Try.prog W 0 (fun _ => true) true Try.f7.params.toList args.toList ds p := hA0
  rw [Try.params7] at hA hval
  obtain ⟨v0, vs0, d0, ds0, p0, q0, hargs, rfl, rfl, h0, r0⟩ := trodAll_cons hA
  obtain ⟨v1, vs1, d1, ds1, p1, q1, rfl, rfl, rfl, h1, r1⟩ := trodAll_cons r0
  obtain ⟨rfl, rfl, rfl⟩ := trodAll_nil r1
  obtain rfl : args = #[v0, v1] := by cases args; simp_all
  obtain ⟨rfl, rfl⟩ := trodVars_none hV
  have k0 := h0
  have lt0 : ∀ x ∈ p0, x.block < W.heap.size := by obtain ⟨m, hm⟩ := k0; exact DataW.trod_lt m _ _ _ hm
  have k1 := h1
  have lt1 : ∀ x ∈ p1, x.block < W.heap.size := by obtain ⟨m, hm⟩ := k1; exact DataW.trod_lt m _ _ _ hm
  obtain ⟨x, rfl, fx, tx, nx⟩ := open_tok (hval 0 25 v0 rfl rfl) h0
  obtain ⟨y, rfl, fy, ty, ny⟩ := open_tok (hval 1 25 v1 rfl rfl) h1
  clear hA0 hval0 hval
  refine (walk x y W fx tx nx fy ty ny).mono fun e W' ⟨he, bel⟩ => ?_
  subst he
  exact ⟨_, rfl, _, _, _, [], _, [], hW', trodAll_mk1 (shut_bool Try.underlying4 _), (trodAll_cons_mk (Below.trod laid_prog (by kernel_rfl) (of_decide_eq_true (by kernel_rfl)) k0 bel lt0) (trodAll_cons_mk (Below.trod laid_prog (by kernel_rfl) (of_decide_eq_true (by kernel_rfl)) k1 bel lt1) trodAll_mk0)), rfl, bel.frame _, fun h => by cases h⟩

set_option maxRecDepth 100000 in
theorem lifted (os : Os) (started : os.Started) (H : Type) (enc : TypeId × Value → H) :
    ReturnsInHanded {} Try.checked os 7 .any (Rows.tokenOnesSpec.pre6 enc Try.prog Try.f7 Rows.tokenOnesRow.domain false) (Rows.tokenOnesSpec.post enc Try.prog Try.f7 false true false false) := by
  refine returnsInHanded_of_change (C := Try.checked) own_prog started (by kernel_rfl) Try.func7
    (ChangeSpec.witness6 (enc := enc) (C := Try.checked) false ⟨#[], #[.agg #[.string ⟨#[]⟩, .string ⟨#[]⟩, .int .i64 0, .bool false], .agg #[.string ⟨#[]⟩, .string ⟨#[]⟩, .int .i64 0, .bool false]], []⟩ 8 (by kernel_rfl) (by kernel_rfl) (by kernel_rfl) (by kernel_rfl)) ?_
  intro W base args ds gs before hval hW _ _
  exact contract H enc W base args ds gs before hval hW

theorem proved : Rows.TokenOnesSaid :=
  OpenClaim.holds_of_wide 7 Try.f7 rfl rfl rfl rfl rfl rfl rfl ⟨rfl, rfl, rfl, rfl, rfl⟩ rfl rfl rfl rfl rfl (by kernel_rfl) Try.func7 (by kernel_rfl)
    (of_decide_eq_true (by kernel_rfl)) (by unfold Func.isWrapper; first | (rw [if_pos (by decide +kernel)]; kernel_rfl) | (rw [if_neg (by decide +kernel)]; exact ⟨rfl, rfl⟩))
    (fun os started H enc _ => lifted os started H enc)

end Go.Proofs.Ytcaildjmpeefbaa.lawTokenOnes
