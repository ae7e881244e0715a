/- Of any bytes the token (1000 at most): for every string. No condition. -/
import Derived.Test.YtcaildjmpeefbaaTkAwake
import Derived.Test.YtcaildjmpeefbaaTkLaw
namespace Go.Proofs.Ytcaildjmpeefbaa.lawTokenTakes
open Go.ChangeShapes Go.WideShapes Go.ChangeAt Go.RowKit Go.Deep Go.ChangeMaps
set_option linter.unusedVariables false
set_option linter.unusedSimpArgs false

set_option maxRecDepth 100000 in
set_option maxHeartbeats 4000000 in
theorem walk (s : ByteArray) (w : World) :
    Calls Try.prog 4 #[.string s] w fun e w' => e = .returned (.bool true) ∧ Below w.heap.size w w' := by
  go_enter Try.func4, Try.ntmps4
  go_wp2_with (go_at_call 9; refine go_stop ?_)
  unfold Stop
  refine (tok_awake _).mono ?_
  rintro e w1 ⟨rfl, hw⟩
  have HF := Lib.hid hw
  clear hw
  by_cases h1 : 1000 < s.size
  · have g1 : decide (1000 < (s.size : Int)) = true := by simp; omega
    go_wp2
    go_ret
    exact ⟨rfl, HF.out.below (Nat.le_refl _) (by simp)⟩
  · have g1 : decide (1000 < (s.size : Int)) = false := by simp; omega
    have h6 : s.size ≤ 1000000 := by omega
    clear h1
    go_wp2_with (go_at_call 15; refine go_stop ?_)
    unfold Stop
    refine (tok_take s _ h6).mono ?_
    rintro e w2 ⟨rfl, hw⟩
    replace HF := Lib.hid (HF.out.trans hw (by simp))
    clear hw
    obtain ⟨U, z, hU⟩ : ∃ (U : Tk) (z : Int), takeV (takeT s.toList) = .tuple #[tkVal U, .int .i64 z] := by
      cases takeT s.toList with
      | none => exact ⟨_, _, rfl⟩
      | some U => exact ⟨_, _, rfl⟩
    have HU := Lib.hid hU
    rw [hU]
    clear hU
    unfold tkVal
    dsimp only
    have hle := HF.out.size
    have HB := Lib.hid (new_block w2 (.cells #[.string U.f, .string U.t, .int .i64 U.next, .bool U.once] 28))
    replace HF := Lib.hid (HF.out.alloc (.cells #[.string U.f, .string U.t, .int .i64 U.next, .bool U.once] 28))
    go_wp2_with (go_at_call 16; refine go_stop ?_)
    unfold Stop
    generalize hW : w2.alloc (.cells #[.string U.f, .string U.t, .int .i64 U.next, .bool U.once] 28) = w3 at *
    refine (rtk_take s _ h6).mono ?_
    rintro e w4 ⟨rfl, hw⟩
    replace HF := Lib.hid (HF.out.trans hw (by simp))
    replace HB := Lib.hid (hw.keep HB.out (by simp))
    clear hw hW
    rw [HU.out]
    unfold tkVal
    dsimp only
    obtain ⟨t0, t1, t2, t3, _⟩ := cells4 HB.out
    have l1 := lt_of_block HB.out
    have n1 : ¬ w4.heap.size = w2.heap.size := by omega
    have n2 : ¬ w2.heap.size = w4.heap.size := by omega
    have HB2 := Lib.hid (new_block w4 (.cells #[.string U.f, .string U.t, .int .i64 U.next, .bool U.once] 25))
    go_wp2_with fail
    replace HB := Lib.hid (((Fr.refl [] w4).alloc (.cells #[.string U.f, .string U.t, .int .i64 U.next, .bool U.once] 25)).keep HB.out (by simp))
    replace HF := Lib.hid (HF.out.alloc (.cells #[.string U.f, .string U.t, .int .i64 U.next, .bool U.once] 25))
    clear t0 t1 t2 t3
    obtain ⟨k, hk⟩ : ∃ k, k = w4.heap.size := ⟨_, rfl⟩
    rw [← hk] at HB2 n1 n2 ⊢
    generalize w4.alloc (.cells #[.string U.f, .string U.t, .int .i64 U.next, .bool U.once] 25) = w5 at *
    clear hk
    obtain ⟨t0, t1, t2, t3, _⟩ := cells4 HB.out
    obtain ⟨u0, u1, u2, u3, _⟩ := cells4 HB2.out
    go_region_held3 (fun w' => (w'.cell? ⟨w2.heap.size, 0, none⟩ = some (.string U.f) ∧ w'.cell? ⟨w2.heap.size, 1, none⟩ = some (.string U.t) ∧ w'.cell? ⟨w2.heap.size, 2, none⟩ = some (.int .i64 U.next) ∧ w'.cell? ⟨w2.heap.size, 3, none⟩ = some (.bool U.once)) ∧ w'.cell? ⟨k, 0, none⟩ = some (.string U.f) ∧ w'.cell? ⟨k, 1, none⟩ = some (.string U.t) ∧ w'.cell? ⟨k, 2, none⟩ = some (.int .i64 U.next) ∧ w'.cell? ⟨k, 3, none⟩ = some (.bool U.once)) (go_keep) (first
      | (go_at_call 11; refine (tok_made U _).mono ?_; rintro e wn ⟨rfl, h2⟩; unfold tkVal; have ha : Fr [] _ wn := (by first | exact ((Fr.refl [] _).drew).trans h2 (by simp) | exact h2); replace HB := Lib.hid (ha.keep HB.out (by simp)); replace HB2 := Lib.hid (ha.keep HB2.out (by simp)); replace HF := Lib.hid (HF.out.trans ha (by simp)); obtain ⟨t0, t1, t2, t3, _⟩ := cells4 HB.out; obtain ⟨u0, u1, u2, u3, _⟩ := cells4 HB2.out; clear h2 ha))
    all_goals
      go_wp2
      go_ret
      exact ⟨by simp, HF.out.below (Nat.le_refl _) (by simp)⟩

set_option maxRecDepth 100000 in
theorem contract (H : Type) (enc : TypeId × Value → H) (W : World) (base : Nat) (args : Array Value) (ds gs : List (DataW H)) (before : List MemPlace)
    (hval0 : ∀ (j : Nat) t v, Try.f4.params[j]? = some t → args[j]? = some v → Value.okWide Try.prog W .any base t v)
    (hW : DataW.Whole enc Try.prog Try.f4.params.toList Rows.tokenTakesSpec.vars false W args.toList ds gs before) :
    Calls Try.prog 4 args W fun e W' => ∃ v, e = .returned v ∧ Rows.tokenTakesSpec.post enc Try.prog Try.f4 false true false false W args v W' := by
  have hval : ∀ (j : Nat) t v, Try.f4.params[j]? = some t → args[j]? = some v → Value.okWide Try.prog W .any base t v := hval0
  have hW' := hW
  obtain ⟨p, q, hA0, hV, rfl, hfz, hnd⟩ := hW
  have hA : DataW.TrodAll enc Try.prog W 0 (fun _ => true) true Try.f4.params.toList args.toList ds p := hA0
  rw [Try.params4] at hA hval
  obtain ⟨v0, vs0, d0, ds0, p0, q0, hargs, rfl, rfl, h0, r0⟩ := trodAll_cons hA
  obtain ⟨rfl, rfl, rfl⟩ := trodAll_nil r0
  obtain rfl : args = #[v0] := by cases args; simp_all
  obtain ⟨rfl, rfl⟩ := trodVars_none hV
  have k0 := h0
  have lt0 : ∀ x ∈ p0, x.block < W.heap.size := by obtain ⟨m, hm⟩ := k0; exact DataW.trod_lt m _ _ _ hm
  obtain ⟨s, rfl, rfl, _, ws⟩ := open_string Try.underlying9 (hval 0 9 v0 rfl rfl) h0
  clear hA0 hval0 hval
  refine (walk s W).mono fun e W' ⟨he, bel⟩ => ?_
  subst he
  exact ⟨_, rfl, _, _, _, [], _, [], hW', trodAll_mk1 (shut_bool Try.underlying4 _), (trodAll_cons_mk (Below.trod laid_prog (by kernel_rfl) (of_decide_eq_true (by kernel_rfl)) k0 bel lt0) trodAll_mk0), rfl, bel.frame _, fun h => by cases h⟩

set_option maxRecDepth 100000 in
theorem lifted (os : Os) (started : os.Started) (H : Type) (enc : TypeId × Value → H) :
    ReturnsInHanded {} Try.checked os 4 .any (Rows.tokenTakesSpec.pre6 enc Try.prog Try.f4 Rows.tokenTakesRow.domain false) (Rows.tokenTakesSpec.post enc Try.prog Try.f4 false true false false) := by
  refine returnsInHanded_of_change (C := Try.checked) own_prog started (by kernel_rfl) Try.func4
    (ChangeSpec.witness6 (enc := enc) (C := Try.checked) false ⟨#[], #[.string ⟨#[]⟩], []⟩ 8 (by kernel_rfl) (by kernel_rfl) (by kernel_rfl) (by kernel_rfl)) ?_
  intro W base args ds gs before hval hW _ _
  exact contract H enc W base args ds gs before hval hW

theorem proved : Rows.TokenTakesSaid :=
  OpenClaim.holds_of_wide 4 Try.f4 rfl rfl rfl rfl rfl rfl rfl ⟨rfl, rfl, rfl, rfl, rfl⟩ rfl rfl rfl rfl rfl (by kernel_rfl) Try.func4 (by kernel_rfl)
    (of_decide_eq_true (by kernel_rfl)) (by unfold Func.isWrapper; first | (rw [if_pos (by decide +kernel)]; kernel_rfl) | (rw [if_neg (by decide +kernel)]; exact ⟨rfl, rfl⟩))
    (fun os started H enc _ => lifted os started H enc)

end Go.Proofs.Ytcaildjmpeefbaa.lawTokenTakes
