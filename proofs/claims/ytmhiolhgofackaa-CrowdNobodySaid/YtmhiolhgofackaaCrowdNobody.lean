/- A Crowd that is nil has no threads; there are as many as were said, none of which has a call at first; a call that is nil isn't one: for every two numbers. No condition. -/
import Derived.Test.YtmhiolhgofackaaCrAk
import Derived.Test.YtmhiolhgofackaaBsFly
import Derived.Test.YtmhiolhgofackaaCrDo
namespace Go.Proofs.Ytmhiolhgofackaa.lawCrowdNobody
open Go.ChangeShapes Go.WideShapes Go.ChangeAt Go.RowKit Go.Deep Go.ChangeMaps
set_option linter.unusedVariables false
set_option linter.unusedSimpArgs false

theorem new_slot {n m : Nat} (h : m < n) : (Cro.new n).sl[m]? = some none := by
  unfold Cro.new
  rw [List.getElem?_replicate, if_pos h]
theorem idle_new (n : Nat) (t : Int) : idleAt (Cro.new n) t = (decide (0 ≤ t) && decide (t < (n : Int))) := by
  by_cases h0 : 0 ≤ t
  · by_cases h1 : t < (n : Int)
    · have e : t = (t.toNat : Int) := by omega
      rw [e, idle_in (new_slot (by omega)), decide_eq_true (by omega), decide_eq_true (by omega)]; rfl
    · rw [idle_out (Or.inr (by simp [Cro.new]; omega)), decide_eq_false h1, Bool.and_false]
  · rw [idle_out (Or.inl (by omega)), decide_eq_false h0]; rfl
set_option maxRecDepth 100000 in
set_option maxHeartbeats 4000000 in
theorem walk (n t : Int) (w : World) (wn : (Lit.int .i64 n).wf = true) (wt : (Lit.int .i64 t).wf = true) :
    Calls Try.prog 3 #[.int .i64 n, .int .i64 t] w fun e w' => e = .returned (.bool true) ∧ Below w.heap.size w w' := by
  clear wn wt
  go_enter Try.func3, Try.ntmps3
  go_wp2_with (go_at_call 4; refine (cr_awake _).mono ?_; rintro e w1 ⟨rfl, hf⟩; refine go_stop ?_)
  unfold Stop
  have HF1 := Lib.hid hf
  clear hf
  go_wp2_with (go_at_call 6; refine (mem0c _).mono ?_; rintro e u1 ⟨mb, rfl, HM⟩; refine go_stop ?_)
  unfold Stop
  have HT := Lib.hid (tree0c HF1.out HM.out)
  go_wp2_with (go_at_call 5; refine HT.out.mono ?_; rintro e u2 ⟨tb, rfl, M2⟩; refine go_stop ?_)
  unfold Stop
  have HX := Lib.hid (fly_Find M2.out (by omega) keyA)
  clear HM HT
  go_wp2_with (go_at_call 7; refine HX.out.mono ?_; rintro e u3 ⟨p, rfl, M3, _⟩; refine go_stop ?_)
  unfold Stop
  have HF3 := Lib.hid (Fly.fr M3.out)
  clear HX M2 M3
  go_wp2_with (go_at_call 8; refine (cr_Begin_nil _ _ _ _ _).mono ?_; rintro e u4 ⟨rfl, hf⟩; refine go_stop ?_)
  unfold Stop
  have HF4 := Lib.hid (Fr.trans (T := []) HF3.out hf (by simp))
  clear hf
  go_wp2_with (go_at_call 9; refine (cr_Pick_nil _ _).mono ?_; rintro e u5 ⟨rfl, hf⟩; refine go_stop ?_)
  unfold Stop
  have HF5 := Lib.hid (Fr.trans (T := []) HF4.out hf (by simp))
  clear hf
  go_wp2_with (go_at_call 10; refine (cr_Idle_nil _ _).mono ?_; rintro e u6 ⟨rfl, hf⟩; refine go_stop ?_)
  unfold Stop
  have HF6 := Lib.hid (Fr.trans (T := []) HF5.out hf (by simp))
  clear hf
  go_wp2_with (go_at_call 11; refine (cr_Calls_nil _).mono ?_; rintro e u7 ⟨rfl, rfl⟩; refine go_stop ?_)
  unfold Stop
  go_wp2_with (go_at_call 12; refine (cr_Clock_nil _).mono ?_; rintro e u8 ⟨rfl, rfl⟩; refine go_stop ?_)
  unfold Stop
  have HF := HF6
  by_cases hn : n < 1 ∨ 8 < n
  · have HN := Lib.hid (fun W => cr_New_nil W hn)
    have hor : (decide (n < 1) || decide (8 < n)) = true := by simpa using hn
    obtain ⟨K1, hK1⟩ : ∃ b, decide (n < 1) = b := ⟨_, rfl⟩
    obtain ⟨K2, hK2⟩ : ∃ b, decide (8 < n) = b := ⟨_, rfl⟩
    obtain ⟨T1, hT1⟩ : ∃ b, decide (0 ≤ t) = b := ⟨_, rfl⟩
    obtain ⟨T2, hT2⟩ : ∃ b, decide (t < n) = b := ⟨_, rfl⟩
    rw [hK1, hK2] at hor
    clear hn
    go_wp2_with (go_at_call 13; refine (HN.out _).mono ?_; rintro e u9 ⟨rfl, rfl⟩; refine go_stop ?_)
    unfold Stop
    cases T1 <;> cases T2 <;> cases K1 <;> cases K2 <;> first | (exact absurd hor (by decide)) | skip
    all_goals clear hor
    all_goals go_wp2_with fail
    all_goals go_ret
    all_goals exact ⟨rfl, HF.out.below (Nat.le_refl _) (by simp)⟩
  · obtain ⟨N, rfl⟩ : ∃ N : Nat, n = (N : Int) := ⟨n.toNat, by omega⟩
    have HN := Lib.hid (fun W => cr_New W (n := N) (by omega) (by omega))
    have hK1 : decide ((N : Int) < 1) = false := decide_eq_false (by omega)
    have hK2 : decide (8 < (N : Int)) = false := decide_eq_false (by omega)
    clear hn
    go_wp2_with (go_at_call 13; refine (HN.out _).mono ?_; rintro e u9 ⟨B, rfl, HB⟩; refine go_stop ?_)
    unfold Stop
    have HC := Lib.hid HB.out.1
    have HF9 := Lib.hid (Fr.trans (T := []) HF.out HB.out.2.1 (by simp))
    have HNEW := Lib.hid HB.out.2.2
    clear HB HN
    by_cases ht : 0 ≤ t ∧ t < (N : Int)
    · obtain ⟨m, rfl⟩ : ∃ m : Nat, t = (m : Int) := ⟨t.toNat, by omega⟩
      have hm : m < N := by omega
      have HS := Lib.hid (new_slot hm)
      have hT1 : decide (0 ≤ (m : Int)) = true := decide_eq_true (by omega)
      have hT2 : decide ((m : Int) < (N : Int)) = true := decide_eq_true (by omega)
      have hT3 : decide (m < N) = true := decide_eq_true hm
      clear ht
      have HI : Hid (∀ W, Fr [] u9 W → Calls Try.prog 10 #[pt B.cb, .int .i64 (m : Int)] W fun e w' => e = .returned (.bool true) ∧ Fr [] W w') := Lib.hid fun W hW => by have := cr_Idle (HC.out.keep0 hW) (m : Int); rw [idle_in HS.out] at this; exact this
      have HP : Hid (∀ W, Fr [] u9 W → Calls Try.prog 9 #[pt B.cb, .int .i64 (m : Int)] W fun e w' => e = .returned (.bool false) ∧ Fr [] W w') := Lib.hid fun W hW => cr_Pick_no (HC.out.keep0 hW) (Or.inr ⟨m, rfl, HS.out⟩)
      have HB0 : Hid (∀ W, Fr [] u9 W → Calls Try.prog 8 #[pt B.cb, .int .i64 (m : Int), .pointer none, .int .i64 3, .string ⟨#[97]⟩] W fun e w' => e = .returned (.int .i64 1) ∧ Fr [] W w') := Lib.hid fun W hW => cr_Begin_none (HC.out.keep0 hW) _ _ _
      have HK : Hid (∀ W, Fr [] u9 W → Calls Try.prog 12 #[pt B.cb] W fun e w' => e = .returned (.int .i64 0) ∧ W = w') := Lib.hid fun W hW => cr_Clock (HC.out.keep0 hW)
      go_wp2_with (go_at_call 10; refine (HI.out _ (Fr.refl [] u9)).mono ?_; rintro e v1 ⟨rfl, hf⟩; refine go_stop ?_)
      unfold Stop
      have HV1 := Lib.hid hf
      clear hf
      go_wp2_with (go_at_call 9; refine (HP.out _ HV1.out).mono ?_; rintro e v2 ⟨rfl, hf⟩; refine go_stop ?_)
      unfold Stop
      have HV2 := Lib.hid (Fr.trans (T := []) HV1.out hf (by simp))
      clear hf
      go_wp2_with (go_at_call 8; refine (HB0.out _ HV2.out).mono ?_; rintro e v3 ⟨rfl, hf⟩; refine go_stop ?_)
      unfold Stop
      have HV3 := Lib.hid (Fr.trans (T := []) HV2.out hf (by simp))
      clear hf
      go_wp2_with (go_at_call 12; refine (HK.out _ HV3.out).mono ?_; rintro e v4 ⟨rfl, rfl⟩; refine go_stop ?_)
      unfold Stop
      have HB1 := Lib.hid (cr_Begin_ok (HC.out.keep0 HV3.out) HS.out rfl (fun u i hu => by have := List.mem_of_getElem? hu; unfold Cro.new at this; have := List.eq_of_mem_replicate this; cases this) (Nat.zero_le _) (Nat.zero_le _) p 3 ⟨#[97]⟩)
      go_wp2_with (go_at_call 8; refine HB1.out.mono ?_; rintro e v5 ⟨rfl, v, hv⟩; refine go_stop ?_)
      unfold Stop
      have HI2 : Hid (Calls Try.prog 10 #[pt B.cb, .int .i64 (m : Int)] v5 fun e w' => e = .returned (.bool false) ∧ Fr [] v5 w') := Lib.hid (by
        have := cr_Idle hv.out.1 (m : Int)
        rw [idle_in (s := some 0) (by show ((Cro.new N).sl.set m (some 0))[m]? = _; rw [List.getElem?_set_self (get_lt HS.out)])] at this
        exact this)
      have HV5 : Hid (Fr [] w v5) := Lib.hid (((HF9.out.trans HV3.out (by simp)).mono (by simp)).trans hv.out.2.1 (fun x hx => Or.inr (Nat.le_trans HF.out.size (HNEW.out x hx))))
      clear hv
      go_wp2_with (go_at_call 10; refine HI2.out.mono ?_; rintro e v6 ⟨rfl, hf⟩; have HV6 := Lib.hid (Fr.trans (T := []) HV5.out hf (by simp)); clear hf)
      go_ret
      exact ⟨rfl, HV6.out.below (Nat.le_refl _) (by simp)⟩
    · have HT : Hid (t < 0 ∨ ((Cro.new N).sl.length : Int) ≤ t) := Lib.hid (by unfold Cro.new; simp; omega)
      by_cases h0 : 0 ≤ t
      · have hT1 : decide (0 ≤ t) = true := decide_eq_true h0
        have hT2 : decide (t < (N : Int)) = false := decide_eq_false (by omega)
        clear ht h0
        have HI : Hid (∀ W, Fr [] u9 W → Calls Try.prog 10 #[pt B.cb, .int .i64 t] W fun e w' => e = .returned (.bool false) ∧ Fr [] W w') := Lib.hid fun W hW => by have := cr_Idle (HC.out.keep0 hW) t; rw [idle_out HT.out] at this; exact this
        have HP : Hid (∀ W, Fr [] u9 W → Calls Try.prog 9 #[pt B.cb, .int .i64 t] W fun e w' => e = .returned (.bool false) ∧ Fr [] W w') := Lib.hid fun W hW => cr_Pick_no (HC.out.keep0 hW) (Or.inl HT.out)
        have HB0 : Hid (∀ W, Fr [] u9 W → Calls Try.prog 8 #[pt B.cb, .int .i64 t, .pointer none, .int .i64 3, .string ⟨#[97]⟩] W fun e w' => e = .returned (.int .i64 1) ∧ Fr [] W w') := Lib.hid fun W hW => cr_Begin_none (HC.out.keep0 hW) _ _ _
        have HK : Hid (∀ W, Fr [] u9 W → Calls Try.prog 12 #[pt B.cb] W fun e w' => e = .returned (.int .i64 0) ∧ W = w') := Lib.hid fun W hW => cr_Clock (HC.out.keep0 hW)
        go_wp2_with (go_at_call 10; refine (HI.out _ (Fr.refl [] u9)).mono ?_; rintro e v1 ⟨rfl, hf⟩; refine go_stop ?_)
        unfold Stop
        have HV1 := Lib.hid hf
        clear hf
        go_wp2_with (go_at_call 9; refine (HP.out _ HV1.out).mono ?_; rintro e v2 ⟨rfl, hf⟩; refine go_stop ?_)
        unfold Stop
        have HV2 := Lib.hid (Fr.trans (T := []) HV1.out hf (by simp))
        clear hf
        go_wp2_with (go_at_call 8; refine (HB0.out _ HV2.out).mono ?_; rintro e v3 ⟨rfl, hf⟩; refine go_stop ?_)
        unfold Stop
        have HV3 := Lib.hid (Fr.trans (T := []) HV2.out hf (by simp))
        clear hf
        go_wp2_with (go_at_call 12; refine (HK.out _ HV3.out).mono ?_; rintro e v4 ⟨rfl, rfl⟩; refine go_stop ?_)
        unfold Stop
        have HB1 := Lib.hid (cr_Begin_out (HC.out.keep0 HV3.out) HT.out (pt p) 3 ⟨#[97]⟩)
        go_wp2_with (go_at_call 8; refine HB1.out.mono ?_; rintro e v5 ⟨rfl, hf⟩; refine go_stop ?_)
        unfold Stop
        have HV5 := Lib.hid (Fr.trans (T := []) HV3.out hf (by simp))
        clear hf
        go_wp2_with (go_at_call 10; refine (HI.out _ HV5.out).mono ?_; rintro e v6 ⟨rfl, hf⟩; have HV6 := Lib.hid (Fr.trans (T := []) HF9.out (Fr.trans (T := []) HV5.out hf (by simp)) (by simp)); clear hf)
        go_ret
        exact ⟨rfl, HV6.out.below (Nat.le_refl _) (by simp)⟩
      · have hT1 : decide (0 ≤ t) = false := decide_eq_false h0
        clear ht h0
        have HI : Hid (∀ W, Fr [] u9 W → Calls Try.prog 10 #[pt B.cb, .int .i64 t] W fun e w' => e = .returned (.bool false) ∧ Fr [] W w') := Lib.hid fun W hW => by have := cr_Idle (HC.out.keep0 hW) t; rw [idle_out HT.out] at this; exact this
        have HP : Hid (∀ W, Fr [] u9 W → Calls Try.prog 9 #[pt B.cb, .int .i64 t] W fun e w' => e = .returned (.bool false) ∧ Fr [] W w') := Lib.hid fun W hW => cr_Pick_no (HC.out.keep0 hW) (Or.inl HT.out)
        have HB0 : Hid (∀ W, Fr [] u9 W → Calls Try.prog 8 #[pt B.cb, .int .i64 t, .pointer none, .int .i64 3, .string ⟨#[97]⟩] W fun e w' => e = .returned (.int .i64 1) ∧ Fr [] W w') := Lib.hid fun W hW => cr_Begin_none (HC.out.keep0 hW) _ _ _
        have HK : Hid (∀ W, Fr [] u9 W → Calls Try.prog 12 #[pt B.cb] W fun e w' => e = .returned (.int .i64 0) ∧ W = w') := Lib.hid fun W hW => cr_Clock (HC.out.keep0 hW)
        go_wp2_with (go_at_call 10; refine (HI.out _ (Fr.refl [] u9)).mono ?_; rintro e v1 ⟨rfl, hf⟩; refine go_stop ?_)
        unfold Stop
        have HV1 := Lib.hid hf
        clear hf
        go_wp2_with (go_at_call 9; refine (HP.out _ HV1.out).mono ?_; rintro e v2 ⟨rfl, hf⟩; refine go_stop ?_)
        unfold Stop
        have HV2 := Lib.hid (Fr.trans (T := []) HV1.out hf (by simp))
        clear hf
        go_wp2_with (go_at_call 8; refine (HB0.out _ HV2.out).mono ?_; rintro e v3 ⟨rfl, hf⟩; refine go_stop ?_)
        unfold Stop
        have HV3 := Lib.hid (Fr.trans (T := []) HV2.out hf (by simp))
        clear hf
        go_wp2_with (go_at_call 12; refine (HK.out _ HV3.out).mono ?_; rintro e v4 ⟨rfl, rfl⟩; refine go_stop ?_)
        unfold Stop
        have HB1 := Lib.hid (cr_Begin_out (HC.out.keep0 HV3.out) HT.out (pt p) 3 ⟨#[97]⟩)
        go_wp2_with (go_at_call 8; refine HB1.out.mono ?_; rintro e v5 ⟨rfl, hf⟩; refine go_stop ?_)
        unfold Stop
        have HV5 := Lib.hid (Fr.trans (T := []) HV3.out hf (by simp))
        clear hf
        go_wp2_with (go_at_call 10; refine (HI.out _ HV5.out).mono ?_; rintro e v6 ⟨rfl, hf⟩; have HV6 := Lib.hid (Fr.trans (T := []) HF9.out (Fr.trans (T := []) HV5.out hf (by simp)) (by simp)); clear hf)
        go_ret
        exact ⟨rfl, HV6.out.below (Nat.le_refl _) (by simp)⟩

set_option maxRecDepth 100000 in
theorem contract (H : Type) (enc : TypeId × Value → H) (W : World) (base : Nat) (args : Array Value) (ds gs : List (DataW H)) (before : List MemPlace)
    (hval0 : ∀ (j : Nat) t v, Try.f3.params[j]? = some t → args[j]? = some v → Value.okWide Try.prog W .any base t v)
    (hW : DataW.Whole enc Try.prog Try.f3.params.toList Rows.crowdNobodySpec.vars false W args.toList ds gs before) :
    Calls Try.prog 3 args W fun e W' => ∃ v, e = .returned v ∧ Rows.crowdNobodySpec.post enc Try.prog Try.f3 false true false false W args v W' := by
  have hval : ∀ (j : Nat) t v, Try.f3.params[j]? = some t → args[j]? = some v → Value.okWide Try.prog W .any base t v := hval0
  have hW' := hW
  obtain ⟨p, q, hA0, hV, rfl, hfz, hnd⟩ := hW
  have hA : DataW.TrodAll enc Try.prog W 0 (fun _ => true) true Try.f3.params.toList args.toList ds p := hA0
  rw [Try.params3] at hA hval
  obtain ⟨v0, vs0, d0, ds0, p0, q0, hargs, rfl, rfl, h0, r0⟩ := trodAll_cons hA
  obtain ⟨v1, vs1, d1, ds1, p1, q1, rfl, rfl, rfl, h1, r1⟩ := trodAll_cons r0
  obtain ⟨rfl, rfl, rfl⟩ := trodAll_nil r1
  obtain rfl : args = #[v0, v1] := by cases args; simp_all
  obtain ⟨rfl, rfl⟩ := trodVars_none hV
  have k0 := h0
  have lt0 : ∀ x ∈ p0, x.block < W.heap.size := by obtain ⟨m, hm⟩ := k0; exact DataW.trod_lt m _ _ _ hm
  have k1 := h1
  have lt1 : ∀ x ∈ p1, x.block < W.heap.size := by obtain ⟨m, hm⟩ := k1; exact DataW.trod_lt m _ _ _ hm
  obtain ⟨n, rfl, _, _, wn⟩ := open_int Try.underlying3 (hval 0 3 v0 rfl rfl) h0
  obtain ⟨t, rfl, _, _, wt⟩ := open_int Try.underlying3 (hval 1 3 v1 rfl rfl) h1
  clear hA0 hval0 hval
  refine (walk n t W wn wt).mono fun e W' ⟨he, bel⟩ => ?_
  subst he
  exact ⟨_, rfl, _, _, _, [], _, [], hW', trodAll_mk1 (shut_bool Try.underlying4 _), (trodAll_cons_mk (Below.trod laid_prog (by kernel_rfl) (of_decide_eq_true (by kernel_rfl)) k0 bel lt0) (trodAll_cons_mk (Below.trod laid_prog (by kernel_rfl) (of_decide_eq_true (by kernel_rfl)) k1 bel lt1) trodAll_mk0)), rfl, bel.frame _, fun h => by cases h⟩

set_option maxRecDepth 100000 in
theorem lifted (os : Os) (started : os.Started) (H : Type) (enc : TypeId × Value → H) :
    ReturnsInHanded {} Try.checked os 3 .any (Rows.crowdNobodySpec.pre6 enc Try.prog Try.f3 Rows.crowdNobodyRow.domain false) (Rows.crowdNobodySpec.post enc Try.prog Try.f3 false true false false) := by
  refine returnsInHanded_of_change (C := Try.checked) own_prog started (by kernel_rfl) Try.func3
    (ChangeSpec.witness6 (enc := enc) (C := Try.checked) false ⟨#[], #[.int .i64 0, .int .i64 0], []⟩ 8 (by kernel_rfl) (by kernel_rfl) (by kernel_rfl) (by kernel_rfl)) ?_
  intro W base args ds gs before hval hW _ _
  exact contract H enc W base args ds gs before hval hW

theorem proved : Rows.CrowdNobodySaid :=
  OpenClaim.holds_of_wide 3 Try.f3 rfl rfl rfl rfl rfl rfl rfl ⟨rfl, rfl, rfl, rfl, rfl⟩ rfl rfl rfl rfl rfl (by kernel_rfl) Try.func3 (by kernel_rfl)
    (of_decide_eq_true (by kernel_rfl)) (by unfold Func.isWrapper; first | (rw [if_pos (by decide +kernel)]; kernel_rfl) | (rw [if_neg (by decide +kernel)]; exact ⟨rfl, rfl⟩))
    (fun os started H enc _ => lifted os started H enc)

end Go.Proofs.Ytmhiolhgofackaa.lawCrowdNobody
