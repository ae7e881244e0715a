/- Whether any token may be, and its bytes (of 300 bytes at most of either key): for every token. No condition. -/
import Derived.Test.YtcaildjmpeefbaaTkAwake
import Derived.Test.YtcaildjmpeefbaaTkLaw
namespace Go.Proofs.Ytcaildjmpeefbaa.lawTokenTells
open Go.ChangeShapes Go.WideShapes Go.ChangeAt Go.RowKit Go.Deep Go.ChangeMaps
set_option linter.unusedVariables false
set_option linter.unusedSimpArgs false

set_option maxRecDepth 100000 in
set_option maxHeartbeats 4000000 in
theorem walk (x : Tk) (w : World) (fx : x.f.size ≤ maxLen) (tx : x.t.size ≤ maxLen) (nx : (Lit.int .i64 x.next).wf = true) :
    Calls Try.prog 3 #[.agg #[.string x.f, .string x.t, .int .i64 x.next, .bool x.once]] w fun e w' => e = .returned (.bool true) ∧ Below w.heap.size w w' := by
  have HB := Lib.hid (new_block w (.cells #[.string x.f, .string x.t, .int .i64 x.next, .bool x.once] 25))
  have HF := Lib.hid ((Fr.refl [] w).alloc (.cells #[.string x.f, .string x.t, .int .i64 x.next, .bool x.once] 25))
  go_enter Try.func3, Try.ntmps3
  go_wp2_with (go_at_call 9; refine go_stop ?_)
  unfold Stop
  refine (tok_awake _).mono ?_
  rintro e w1 ⟨rfl, hw⟩
  replace HB := Lib.hid (hw.keep HB.out (by simp))
  replace HF := Lib.hid (HF.out.trans hw (by simp))
  clear hw
  obtain ⟨t0, t1, t2, t3, _⟩ := cells4 HB.out
  by_cases h1 : 300 < x.f.size
  · have g1 : decide (300 < (x.f.size : Int)) = true := by simp; omega
    clear fx
    go_wp2
    go_ret
    exact ⟨rfl, HF.out.below (Nat.le_refl _) (by simp)⟩
  · have g1 : decide (300 < (x.f.size : Int)) = false := by simp; omega
    by_cases h2 : 300 < x.t.size
    · have g2 : decide (300 < (x.t.size : Int)) = true := by simp; omega
      clear tx
      go_wp2
      go_ret
      exact ⟨rfl, HF.out.below (Nat.le_refl _) (by simp)⟩
    · have g2 : decide (300 < (x.t.size : Int)) = false := by simp; omega
      have f6 : x.f.size ≤ 1000000 := by omega
      have t6 : x.t.size ≤ 1000000 := by omega
      clear h1 h2
      obtain ⟨m, hm⟩ : ∃ m, mayT x = m := ⟨_, rfl⟩
      obtain ⟨z, hz⟩ : ∃ z, tkBa (putT x) = z := ⟨_, rfl⟩
      have HM := Lib.hid hm
      have HZ := Lib.hid hz
      clear hm hz
      go_wp2_with fail
      go_region_held3 (fun w' => w'.cell? ⟨w.heap.size, 0, none⟩ = some (.string x.f) ∧ w'.cell? ⟨w.heap.size, 1, none⟩ = some (.string x.t) ∧ w'.cell? ⟨w.heap.size, 2, none⟩ = some (.int .i64 x.next) ∧ w'.cell? ⟨w.heap.size, 3, none⟩ = some (.bool x.once)) (go_keep) (first
        | (go_at_call 11; refine (tok_made x _).mono ?_; rintro e wn ⟨rfl, h2⟩; unfold tkVal; have ha : Fr [] _ wn := (by first | exact ((Fr.refl [] _).drew).trans h2 (by simp) | exact h2); replace HB := Lib.hid (ha.keep HB.out (by simp)); replace HF := Lib.hid (HF.out.trans ha (by simp)); obtain ⟨t0, t1, t2, t3, _⟩ := cells4 HB.out; clear h2 ha)
        | (go_at_call 10; refine (tok_may x _ fx tx).mono ?_; rintro e wn ⟨rfl, h2⟩; rw [HM.out]; have ha : Fr [] _ wn := (by first | exact ((Fr.refl [] _).drew).trans h2 (by simp) | exact h2); replace HB := Lib.hid (ha.keep HB.out (by simp)); replace HF := Lib.hid (HF.out.trans ha (by simp)); obtain ⟨t0, t1, t2, t3, _⟩ := cells4 HB.out; clear h2 ha)
        | (go_at_call 12; refine (rtk_may x _ fx tx).mono ?_; rintro e wn ⟨rfl, h2⟩; rw [HM.out]; have ha : Fr [] _ wn := (by first | exact ((Fr.refl [] _).drew).trans h2 (by simp) | exact h2); replace HB := Lib.hid (ha.keep HB.out (by simp)); replace HF := Lib.hid (HF.out.trans ha (by simp)); obtain ⟨t0, t1, t2, t3, _⟩ := cells4 HB.out; clear h2 ha)
        | (go_at_call 13; refine (tok_put x _ f6 t6 nx).mono ?_; rintro e wn ⟨rfl, h2⟩; rw [HZ.out]; have ha : Fr [] _ wn := (by first | exact ((Fr.refl [] _).drew).trans h2 (by simp) | exact h2); replace HB := Lib.hid (ha.keep HB.out (by simp)); replace HF := Lib.hid (HF.out.trans ha (by simp)); obtain ⟨t0, t1, t2, t3, _⟩ := cells4 HB.out; clear h2 ha)
        | (go_at_call 14; refine (rtk_put x _ f6 t6 nx).mono ?_; rintro e wn ⟨rfl, h2⟩; rw [HZ.out]; have ha : Fr [] _ wn := (by first | exact ((Fr.refl [] _).drew).trans h2 (by simp) | exact h2); replace HB := Lib.hid (ha.keep HB.out (by simp)); replace HF := Lib.hid (HF.out.trans ha (by simp)); obtain ⟨t0, t1, t2, t3, _⟩ := cells4 HB.out; clear h2 ha))
      all_goals
        go_wp2
        go_ret
        exact ⟨by simp, HF.out.below (Nat.le_refl _) (by simp)⟩

set_option maxRecDepth 100000 in
theorem contract (H : Type) (enc : TypeId × Value → H) (W : World) (base : Nat) (args : Array Value) (ds gs : List (DataW H)) (before : List MemPlace)
    (hval0 : ∀ (j : Nat) t v, Try.f3.params[j]? = some t → args[j]? = some v → Value.okWide Try.prog W .any base t v)
    (hW : DataW.Whole enc Try.prog Try.f3.params.toList Rows.tokenTellsSpec.vars false W args.toList ds gs before) :
    Calls Try.prog 3 args W fun e W' => ∃ v, e = .returned v ∧ Rows.tokenTellsSpec.post enc Try.prog Try.f3 false true false false W args v W' := by
  have hval : ∀ (j : Nat) t v, Try.f3.params[j]? = some t → args[j]? = some v → Value.okWide Try.prog W .any base t v := hval0
  have hW' := hW
  obtain ⟨p, q, hA0, hV, rfl, hfz, hnd⟩ := hW
  have hA : DataW.TrodAll enc Try.prog W 0 (fun _ => true) true Try.f3.params.toList args.toList ds p := hA0
  rw [Try.params3] at hA hval
  obtain ⟨v0, vs0, d0, ds0, p0, q0, hargs, rfl, rfl, h0, r0⟩ := trodAll_cons hA
  obtain ⟨rfl, rfl, rfl⟩ := trodAll_nil r0
  obtain rfl : args = #[v0] := by cases args; simp_all
  obtain ⟨rfl, rfl⟩ := trodVars_none hV
  have k0 := h0
  have lt0 : ∀ x ∈ p0, x.block < W.heap.size := by obtain ⟨m, hm⟩ := k0; exact DataW.trod_lt m _ _ _ hm
  obtain ⟨x, rfl, fx, tx, nx⟩ := open_tok (hval 0 25 v0 rfl rfl) h0
  clear hA0 hval0 hval
  refine (walk x W fx tx nx).mono fun e W' ⟨he, bel⟩ => ?_
  subst he
  exact ⟨_, rfl, _, _, _, [], _, [], hW', trodAll_mk1 (shut_bool Try.underlying4 _), (trodAll_cons_mk (Below.trod laid_prog (by kernel_rfl) (of_decide_eq_true (by kernel_rfl)) k0 bel lt0) trodAll_mk0), rfl, bel.frame _, fun h => by cases h⟩

set_option maxRecDepth 100000 in
theorem lifted (os : Os) (started : os.Started) (H : Type) (enc : TypeId × Value → H) :
    ReturnsInHanded {} Try.checked os 3 .any (Rows.tokenTellsSpec.pre6 enc Try.prog Try.f3 Rows.tokenTellsRow.domain false) (Rows.tokenTellsSpec.post enc Try.prog Try.f3 false true false false) := by
  refine returnsInHanded_of_change (C := Try.checked) own_prog started (by kernel_rfl) Try.func3
    (ChangeSpec.witness6 (enc := enc) (C := Try.checked) false ⟨#[], #[.agg #[.string ⟨#[]⟩, .string ⟨#[]⟩, .int .i64 0, .bool false]], []⟩ 8 (by kernel_rfl) (by kernel_rfl) (by kernel_rfl) (by kernel_rfl)) ?_
  intro W base args ds gs before hval hW _ _
  exact contract H enc W base args ds gs before hval hW

theorem proved : Rows.TokenTellsSaid :=
  OpenClaim.holds_of_wide 3 Try.f3 rfl rfl rfl rfl rfl rfl rfl ⟨rfl, rfl, rfl, rfl, rfl⟩ rfl rfl rfl rfl rfl (by kernel_rfl) Try.func3 (by kernel_rfl)
    (of_decide_eq_true (by kernel_rfl)) (by unfold Func.isWrapper; first | (rw [if_pos (by decide +kernel)]; kernel_rfl) | (rw [if_neg (by decide +kernel)]; exact ⟨rfl, rfl⟩))
    (fun os started H enc _ => lifted os started H enc)

end Go.Proofs.Ytcaildjmpeefbaa.lawTokenTells
