/- What may be is taken as it was put: for every token. No condition. -/
import Derived.Test.YtcaildjmpeefbaaTkAwake
import Derived.Test.YtcaildjmpeefbaaTkLaw
namespace Go.Proofs.Ytcaildjmpeefbaa.lawTokenBack
open Go.ChangeShapes Go.WideShapes Go.ChangeAt Go.RowKit Go.Deep Go.ChangeMaps
set_option linter.unusedVariables false
set_option linter.unusedSimpArgs false

set_option maxRecDepth 100000 in
set_option maxHeartbeats 4000000 in
theorem walk (x : Tk) (w : World) (fx : x.f.size ≤ maxLen) (tx : x.t.size ≤ maxLen) (nx : (Lit.int .i64 x.next).wf = true) :
    Calls Try.prog 5 #[.agg #[.string x.f, .string x.t, .int .i64 x.next, .bool x.once]] w fun e w' => e = .returned (.bool true) ∧ Below w.heap.size w w' := by
  have HB := Lib.hid (new_block w (.cells #[.string x.f, .string x.t, .int .i64 x.next, .bool x.once] 25))
  have HF := Lib.hid ((Fr.refl [] w).alloc (.cells #[.string x.f, .string x.t, .int .i64 x.next, .bool x.once] 25))
  go_enter Try.func5, Try.ntmps5
  go_wp2_with (go_at_call 9; refine go_stop ?_)
  unfold Stop
  refine (tok_awake _).mono ?_
  rintro e w1 ⟨rfl, hw⟩
  replace HB := Lib.hid (hw.keep HB.out (by simp))
  replace HF := Lib.hid (HF.out.trans hw (by simp))
  clear hw
  obtain ⟨t0, t1, t2, t3, _⟩ := cells4 HB.out
  go_wp2_with (go_at_call 11; refine go_stop ?_)
  unfold Stop
  refine (tok_made x _).mono ?_
  rintro e w2 ⟨rfl, hw⟩
  unfold tkVal
  dsimp only
  replace HF := Lib.hid (HF.out.trans hw (by simp))
  clear hw HB t0 t1 t2 t3
  have hlt := HF.out.size
  have HBX := Lib.hid (new_block w2 (.cells #[.string x.f, .string x.t, .int .i64 x.next, .bool x.once] 28))
  replace HF := Lib.hid (HF.out.alloc (.cells #[.string x.f, .string x.t, .int .i64 x.next, .bool x.once] 28))
  go_wp2_with (go_at_call 10; refine go_stop ?_)
  unfold Stop
  generalize hW : w2.alloc (.cells #[.string x.f, .string x.t, .int .i64 x.next, .bool x.once] 28) = w3 at *
  refine (tok_may x _ fx tx).mono ?_
  rintro e w4 ⟨rfl, hw⟩
  dsimp only
  replace HF := Lib.hid (HF.out.trans hw (by simp))
  replace HBX := Lib.hid (hw.keep HBX.out (by simp))
  clear hw hW
  obtain ⟨t0, t1, t2, t3, _⟩ := cells4 HBX.out
  by_cases hm : mayT x = true
  · rw [hm]
    obtain ⟨z1, z2, z3, z4⟩ := mayT_size hm
    go_wp2_with (go_at_call 13; refine go_stop ?_)
    unfold Stop
    refine (tok_put x _ (by omega) (by omega) nx).mono ?_
    rintro e w5 ⟨rfl, hw⟩
    dsimp only
    replace HF := Lib.hid (HF.out.trans hw (by simp))
    replace HBX := Lib.hid (hw.keep HBX.out (by simp))
    clear hw t0 t1 t2 t3
    have hps : (tkBa (putT x)).size ≤ 1000000 := by
      rw [← tk_len, list_tkBa]
      have e1 := tk_len x.f
      have e2 := tk_len x.t
      simp only [putT, List.length_cons, List.length_append]
      omega
    go_wp2_with (go_at_call 15; refine go_stop ?_)
    unfold Stop
    refine (tok_take _ _ hps).mono ?_
    rintro e w6 ⟨rfl, hw⟩
    rw [list_tkBa, take_put hm]
    unfold takeV tkVal
    dsimp only
    replace HF := Lib.hid (HF.out.trans hw (by simp))
    replace HBX := Lib.hid (hw.keep HBX.out (by simp))
    clear hw
    obtain ⟨t0, t1, t2, t3, _⟩ := cells4 HBX.out
    have l1 := lt_of_block HBX.out
    have n1 : ¬ w6.heap.size = w2.heap.size := by omega
    have n2 : ¬ w2.heap.size = w6.heap.size := by omega
    go_wp2
    go_ret
    exact ⟨rfl, (HF.out.alloc _).below (Nat.le_refl _) (by simp)⟩
  · have hm : mayT x = false := by simpa using hm
    rw [hm]
    go_wp2
    go_ret
    exact ⟨rfl, HF.out.below (Nat.le_refl _) (by simp)⟩

set_option maxRecDepth 100000 in
theorem contract (H : Type) (enc : TypeId × Value → H) (W : World) (base : Nat) (args : Array Value) (ds gs : List (DataW H)) (before : List MemPlace)
    (hval0 : ∀ (j : Nat) t v, Try.f5.params[j]? = some t → args[j]? = some v → Value.okWide Try.prog W .any base t v)
    (hW : DataW.Whole enc Try.prog Try.f5.params.toList Rows.tokenBackSpec.vars false W args.toList ds gs before) :
    Calls Try.prog 5 args W fun e W' => ∃ v, e = .returned v ∧ Rows.tokenBackSpec.post enc Try.prog Try.f5 false true false false W args v W' := by
  have hval : ∀ (j : Nat) t v, Try.f5.params[j]? = some t → args[j]? = some v → Value.okWide Try.prog W .any base t v := hval0
  have hW' := hW
  obtain ⟨p, q, hA0, hV, rfl, hfz, hnd⟩ := hW
  have hA : DataW.TrodAll enc Try.prog W 0 (fun _ => true) true Try.f5.params.toList args.toList ds p := hA0
  rw [Try.params5] at hA hval
  obtain ⟨v0, vs0, d0, ds0, p0, q0, hargs, rfl, rfl, h0, r0⟩ := trodAll_cons hA
  obtain ⟨rfl, rfl, rfl⟩ := trodAll_nil r0
  obtain rfl : args = #[v0] := by cases args; simp_all
  obtain ⟨rfl, rfl⟩ := trodVars_none hV
  have k0 := h0
  have lt0 : ∀ x ∈ p0, x.block < W.heap.size := by obtain ⟨m, hm⟩ := k0; exact DataW.trod_lt m _ _ _ hm
  obtain ⟨x, rfl, fx, tx, nx⟩ := open_tok (hval 0 25 v0 rfl rfl) h0
  clear hA0 hval0 hval
  refine (walk x W fx tx nx).mono fun e W' ⟨he, bel⟩ => ?_
  subst he
  exact ⟨_, rfl, _, _, _, [], _, [], hW', trodAll_mk1 (shut_bool Try.underlying4 _), (trodAll_cons_mk (Below.trod laid_prog (by kernel_rfl) (of_decide_eq_true (by kernel_rfl)) k0 bel lt0) trodAll_mk0), rfl, bel.frame _, fun h => by cases h⟩

set_option maxRecDepth 100000 in
theorem lifted (os : Os) (started : os.Started) (H : Type) (enc : TypeId × Value → H) :
    ReturnsInHanded {} Try.checked os 5 .any (Rows.tokenBackSpec.pre6 enc Try.prog Try.f5 Rows.tokenBackRow.domain false) (Rows.tokenBackSpec.post enc Try.prog Try.f5 false true false false) := by
  refine returnsInHanded_of_change (C := Try.checked) own_prog started (by kernel_rfl) Try.func5
    (ChangeSpec.witness6 (enc := enc) (C := Try.checked) false ⟨#[], #[.agg #[.string ⟨#[]⟩, .string ⟨#[]⟩, .int .i64 0, .bool false]], []⟩ 8 (by kernel_rfl) (by kernel_rfl) (by kernel_rfl) (by kernel_rfl)) ?_
  intro W base args ds gs before hval hW _ _
  exact contract H enc W base args ds gs before hval hW

theorem proved : Rows.TokenBackSaid :=
  OpenClaim.holds_of_wide 5 Try.f5 rfl rfl rfl rfl rfl rfl rfl ⟨rfl, rfl, rfl, rfl, rfl⟩ rfl rfl rfl rfl rfl (by kernel_rfl) Try.func5 (by kernel_rfl)
    (of_decide_eq_true (by kernel_rfl)) (by unfold Func.isWrapper; first | (rw [if_pos (by decide +kernel)]; kernel_rfl) | (rw [if_neg (by decide +kernel)]; exact ⟨rfl, rfl⟩))
    (fun os started H enc _ => lifted os started H enc)

end Go.Proofs.Ytcaildjmpeefbaa.lawTokenBack
