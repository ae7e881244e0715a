/- The range of one key has just that; it may be, if the key may: for every two strings. No condition. -/
import Derived.Test.YtfciobkjnnhhfaaKeyLaw
import Derived.Test.YtfciobkjnnhhfaaAfter
namespace Go.Proofs.Ytfciobkjnnhhfaa.lawKeyOne
open Go.ChangeShapes Go.WideShapes Go.ChangeAt Go.RowKit Go.Deep Go.ChangeMaps
set_option linter.unusedVariables false
set_option linter.unusedSimpArgs false

set_option maxRecDepth 100000 in
set_option maxHeartbeats 4000000 in
theorem walk (k o : ByteArray) (w : World) (wk : k.size ≤ maxLen) (wo : o.size ≤ maxLen) (zk : k.size ≤ 140737488355328) :
    Calls Try.prog 5 #[.string k, .string o] w fun e w' => e = .returned (.bool true) ∧ Below w.heap.size w w' := by
  obtain ⟨k1, hk1⟩ : ∃ k1, k1 = k ++ ⟨#[0]⟩ := ⟨_, rfl⟩
  have e1 : k1.toList = k.toList ++ [0] := by rw [hk1, bs_app, ByteArray.toList_eq ⟨#[_]⟩]
  have z1 : k1.size ≤ maxLen := by
    have h1 := bs_len k1
    rw [e1, List.length_append, bs_len] at h1
    simp only [List.length_cons, List.length_nil] at h1
    unfold maxLen; omega
  have c1 : CV 20 #[.string k] (.agg #[.string k, .string k1]) := ⟨fun W => by rw [hk1]; exact key_one k W zk⟩
  have v2 : Hid (inB k.toList k1.toList k.toList = true) := Lib.hid (by rw [e1, one_in, beq_self_eq_true])
  have v3 : inB k.toList k1.toList o.toList = (o.toList == k.toList) := by rw [e1, one_in]
  have c4 : CV 10 #[.string k] (.bool (mayB k.toList)) := ⟨fun W => key_may k W wk⟩
  have h5 : mayB k.toList = true → CV 12 #[.agg #[.string k, .string k1]] (.bool true) := fun h => ⟨fun W => by have := key_mayrange k k1 W wk z1; rw [e1, one_may h] at this; exact this⟩
  have c6 : CV 16 #[.agg #[.string k, .string k1]] (.bool false) := ⟨fun W => by have := key_empty k k1 W; rw [e1, one_empty] at this; exact this⟩
  obtain ⟨b4, hb4⟩ : ∃ b, b = mayB k.toList := ⟨_, rfl⟩
  rw [← hb4] at c4 h5
  clear hb4 hk1 e1 z1 wk wo zk
  obtain ⟨b3, hb3⟩ : ∃ b, (o.toList == k.toList) = b := ⟨_, rfl⟩
  rw [hb3] at v3
  replace v3 := Lib.hid v3
  go_enter Try.func5, Try.ntmps5
  go_wp2_with (first | (go_at_call 9; refine (key_awake _).mono ?_; rintro e w1 ⟨rfl, h1⟩; have HF := Lib.hid h1; clear h1) | (go_at_call 20; refine (c1.out _).mono ?_; rintro e w2 ⟨rfl, h2⟩; refine go_stop ?_))
  unfold Stop
  have HM := Lib.hid (new_block w2 (Obj.cells #[.string k, .string k1] 23))
  obtain ⟨m0, m1, _⟩ := cells2 HM.out
  replace HF := Lib.hid ((HF.out.trans h2 (by simp)).alloc (Obj.cells #[.string k, .string k1] 23))
  clear h2
  cases b3
  all_goals cases b4
  all_goals first
    | have c5 := h5 rfl
    | skip
  all_goals clear h5
  all_goals
    go_wp2_with (first
    | (go_at_call 14; refine (key_in _ _ _ _).mono ?_; rintro e wn ⟨rfl, hq⟩; (first | rw [v2.out] | rw [v3.out]); replace HM := Lib.hid (hq.keep HM.out (by simp)); obtain ⟨m0, m1, _⟩ := cells2 HM.out; have hz : Fr [] w wn := (by first | exact HF.out.trans hq (by simp) | exact HF.out.drew.trans hq (by simp) | exact (HF.out.drewN _).trans hq (by simp)); replace HF := Lib.hid hz; clear hq hz)
    | (go_at_call 10; refine (c4.out _).mono ?_; rintro e wn ⟨rfl, hq⟩; replace HM := Lib.hid (hq.keep HM.out (by simp)); obtain ⟨m0, m1, _⟩ := cells2 HM.out; have hz : Fr [] w wn := (by first | exact HF.out.trans hq (by simp) | exact HF.out.drew.trans hq (by simp) | exact (HF.out.drewN _).trans hq (by simp)); replace HF := Lib.hid hz; clear hq hz)
    | (go_at_call 12; refine (c5.out _).mono ?_; rintro e wn ⟨rfl, hq⟩; replace HM := Lib.hid (hq.keep HM.out (by simp)); obtain ⟨m0, m1, _⟩ := cells2 HM.out; have hz : Fr [] w wn := (by first | exact HF.out.trans hq (by simp) | exact HF.out.drew.trans hq (by simp) | exact (HF.out.drewN _).trans hq (by simp)); replace HF := Lib.hid hz; clear hq hz)
    | (go_at_call 16; refine (c6.out _).mono ?_; rintro e wn ⟨rfl, hq⟩; replace HM := Lib.hid (hq.keep HM.out (by simp)); obtain ⟨m0, m1, _⟩ := cells2 HM.out; have hz : Fr [] w wn := (by first | exact HF.out.trans hq (by simp) | exact HF.out.drew.trans hq (by simp) | exact (HF.out.drewN _).trans hq (by simp)); replace HF := Lib.hid hz; clear hq hz))
  all_goals go_ret
  all_goals exact ⟨rfl, HF.out.below (Nat.le_refl _) (by simp)⟩

set_option maxRecDepth 100000 in
theorem contract (H : Type) (enc : TypeId × Value → H) (W : World) (base : Nat) (args : Array Value) (ds gs : List (DataW H)) (before : List MemPlace)
    (hval0 : ∀ (j : Nat) t v, Try.f5.params[j]? = some t → args[j]? = some v → Value.okWide Try.prog W .any base t v)
    (hW : DataW.Whole enc Try.prog Try.f5.params.toList Rows.keyOneSpec.vars false W args.toList ds gs before)
    (hsz : (DataW.weightsEach Try.prog (Try.f5.params.toList ++ Rows.keyOneSpec.plain.varTypes Try.prog) (ds ++ gs)).all (· ≤ reachBytes) = true) :
    Calls Try.prog 5 args W fun e W' => ∃ v, e = .returned v ∧ Rows.keyOneSpec.post enc Try.prog Try.f5 false true false false W args v W' := by
  have hval : ∀ (j : Nat) t v, Try.f5.params[j]? = some t → args[j]? = some v → Value.okWide Try.prog W .any base t v := hval0
  have hW' := hW
  obtain ⟨p, q, hA0, hV, rfl, hfz, hnd⟩ := hW
  have hA : DataW.TrodAll enc Try.prog W 0 (fun _ => true) true Try.f5.params.toList args.toList ds p := hA0
  rw [Try.params5] at hA hval
  obtain ⟨v0, vs0, d0, ds0, p0, q0, hargs, rfl, rfl, h0, r0⟩ := trodAll_cons hA
  obtain ⟨v1, vs1, d1, ds1, p1, q1, rfl, rfl, rfl, h1, r1⟩ := trodAll_cons r0
  obtain ⟨rfl, rfl, rfl⟩ := trodAll_nil r1
  obtain rfl : args = #[v0, v1] := by cases args; simp_all
  obtain ⟨rfl, rfl⟩ := trodVars_none hV
  have k0 := h0
  have lt0 : ∀ x ∈ p0, x.block < W.heap.size := by obtain ⟨m, hm⟩ := k0; exact DataW.trod_lt m _ _ _ hm
  have k1 := h1
  have lt1 : ∀ x ∈ p1, x.block < W.heap.size := by obtain ⟨m, hm⟩ := k1; exact DataW.trod_lt m _ _ _ hm
  obtain ⟨k, rfl, rfl, _, wk⟩ := open_string Try.underlying9 (hval 0 9 v0 rfl rfl) h0
  obtain ⟨o, rfl, rfl, _, wo⟩ := open_string Try.underlying9 (hval 1 9 v1 rfl rfl) h1
  have zk : k.size ≤ 140737488355328 := by have h1 := sized_string hsz (j := 0) rfl rfl; have h2 := reachBytes_lt; have h3 : k.data.toList.length = k.size := (by simp); omega
  clear hA0 hval0 hval
  refine (walk k o W wk wo zk).mono fun e W' ⟨he, bel⟩ => ?_
  subst he
  exact ⟨_, rfl, _, _, _, [], _, [], hW', trodAll_mk1 (shut_bool Try.underlying4 _), (trodAll_cons_mk (Below.trod laid_prog (by kernel_rfl) (of_decide_eq_true (by kernel_rfl)) k0 bel lt0) (trodAll_cons_mk (Below.trod laid_prog (by kernel_rfl) (of_decide_eq_true (by kernel_rfl)) k1 bel lt1) trodAll_mk0)), rfl, bel.frame _, fun h => by cases h⟩

set_option maxRecDepth 100000 in
theorem lifted (os : Os) (started : os.Started) (H : Type) (enc : TypeId × Value → H) :
    ReturnsInHanded {} Try.checked os 5 .any (Rows.keyOneSpec.pre6 enc Try.prog Try.f5 Rows.keyOneRow.domain false) (Rows.keyOneSpec.post enc Try.prog Try.f5 false true false false) := by
  refine returnsInHanded_of_change_sized (C := Try.checked) own_prog started (by kernel_rfl) Try.func5
    (ChangeSpec.witness6 (enc := enc) (C := Try.checked) false ⟨#[], #[.string ⟨#[]⟩, .string ⟨#[]⟩], []⟩ 8 (by kernel_rfl) (by kernel_rfl) (by kernel_rfl) (by kernel_rfl)) ?_
  intro W base args ds gs before hval hW _ hsz _
  exact contract H enc W base args ds gs before hval hW hsz

theorem proved : Rows.KeyOneSaid :=
  OpenClaim.holds_of_wide 5 Try.f5 rfl rfl rfl rfl rfl rfl rfl ⟨rfl, rfl, rfl, rfl, rfl⟩ rfl rfl rfl rfl rfl (by kernel_rfl) Try.func5 (by kernel_rfl)
    (of_decide_eq_true (by kernel_rfl)) (by unfold Func.isWrapper; first | (rw [if_pos (by decide +kernel)]; kernel_rfl) | (rw [if_neg (by decide +kernel)]; exact ⟨rfl, rfl⟩))
    (fun os started H enc _ => lifted os started H enc)

end Go.Proofs.Ytfciobkjnnhhfaa.lawKeyOne
