/- Any state, and what is done, as a word, and any word's: as the document says, for every two numbers and every word. No condition. -/
import Derived.Test.YtbfgofalgjamaaaWdLaw
namespace Go.Proofs.Ytbfgofalgjamaaa.lawWordPacks
open Go.ChangeShapes Go.WideShapes Go.ChangeAt Go.RowKit Go.Deep Go.ChangeMaps
set_option linter.unusedVariables false
set_option linter.unusedSimpArgs false

set_option maxRecDepth 100000 in
set_option maxHeartbeats 40000000 in
theorem walk (s i n : Int) (w : World) (wn : IsU n) :
    Calls Try.prog 3 #[.int .i64 s, .int .i64 i, .int .u64 n] w fun e w' => e = .returned (.bool true) ∧ Below w.heap.size w w' := by
  have c1 : CW 10 #[.int .i64 s, .int .i64 i] (.int .u64 (packW s i)) := to_fr fun W => wd_pack s i W
  have c2 : CW 11 #[.int .i64 s, .int .i64 i] (.int .u64 (packW s i)) := to_fr fun W => rwd_pack s i W
  have c3 : CW 12 #[.int .u64 n] (.int .i64 (n % 4)) := to_fr fun W => wd_state n W wn
  have c4 : CW 13 #[.int .u64 n] (.int .i64 (n % 4)) := to_fr fun W => rwd_state n W wn
  have c5 : CW 14 #[.int .u64 n] (.int .i64 (n / 4)) := to_fr fun W => wd_info n W wn
  have c6 : CW 15 #[.int .u64 n] (.int .i64 (n / 4)) := to_fr fun W => rwd_info n W wn
  generalize packW s i = x at c1 c2
  clear wn
  go_enter Try.func3, Try.ntmps3
  go_wp2_with (go_at_call 9; refine go_stop ?_)
  unfold Stop
  refine (wd_awake _).mono ?_
  rintro e w1 ⟨rfl, hw⟩
  go_wp2_with (go_at_call 10; refine go_stop ?_)
  unfold Stop
  refine (c1.out _).mono ?_
  rintro e w2 ⟨rfl, k⟩
  dsimp only
  replace hw := hw.trans k (by simp)
  clear k
  go_wp2_with (go_at_call 11; refine go_stop ?_)
  unfold Stop
  refine (c2.out _).mono ?_
  rintro e w3 ⟨rfl, k⟩
  dsimp only
  replace hw := hw.trans k (by simp)
  clear k
  go_wp2_with (go_at_call 12; refine go_stop ?_)
  unfold Stop
  refine (c3.out _).mono ?_
  rintro e w4 ⟨rfl, k⟩
  dsimp only
  replace hw := hw.trans k (by simp)
  clear k
  go_wp2_with (go_at_call 13; refine go_stop ?_)
  unfold Stop
  refine (c4.out _).mono ?_
  rintro e w5 ⟨rfl, k⟩
  dsimp only
  replace hw := hw.trans k (by simp)
  clear k
  go_wp2_with (go_at_call 14; refine go_stop ?_)
  unfold Stop
  refine (c5.out _).mono ?_
  rintro e w6 ⟨rfl, k⟩
  dsimp only
  replace hw := hw.trans k (by simp)
  clear k
  go_wp2_with (go_at_call 15; refine go_stop ?_)
  unfold Stop
  refine (c6.out _).mono ?_
  rintro e w7 ⟨rfl, k⟩
  dsimp only
  replace hw := hw.trans k (by simp)
  clear k
  go_wp2
  go_ret
  exact ⟨rfl, hw.below (Nat.le_refl _) (by simp)⟩

set_option maxRecDepth 100000 in
theorem contract (H : Type) (enc : TypeId × Value → H) (W : World) (base : Nat) (args : Array Value) (ds gs : List (DataW H)) (before : List MemPlace)
    (hval0 : ∀ (j : Nat) t v, Try.f3.params[j]? = some t → args[j]? = some v → Value.okWide Try.prog W .any base t v)
    (hW : DataW.Whole enc Try.prog Try.f3.params.toList Rows.wordPacksSpec.vars false W args.toList ds gs before) :
    Calls Try.prog 3 args W fun e W' => ∃ v, e = .returned v ∧ Rows.wordPacksSpec.post enc Try.prog Try.f3 false true false false W args v W' := by
  have hval : ∀ (j : Nat) t v, Try.f3.params[j]? = some t → args[j]? = some v → Value.okWide Try.prog W .any base t v := hval0
  have hW' := hW
  obtain ⟨p, q, hA0, hV, rfl, hfz, hnd⟩ := hW
  have hA : DataW.TrodAll enc Try.prog W 0 (fun _ => true) true Try.f3.params.toList args.toList ds p := hA0
  rw [Try.params3] at hA hval
  obtain ⟨v0, vs0, d0, ds0, p0, q0, hargs, rfl, rfl, h0, r0⟩ := trodAll_cons hA
  obtain ⟨v1, vs1, d1, ds1, p1, q1, rfl, rfl, rfl, h1, r1⟩ := trodAll_cons r0
  obtain ⟨v2, vs2, d2, ds2, p2, q2, rfl, rfl, rfl, h2, r2⟩ := trodAll_cons r1
  obtain ⟨rfl, rfl, rfl⟩ := trodAll_nil r2
  obtain rfl : args = #[v0, v1, v2] := by cases args; simp_all
  obtain ⟨rfl, rfl⟩ := trodVars_none hV
  have k0 := h0
  have lt0 : ∀ x ∈ p0, x.block < W.heap.size := by obtain ⟨m, hm⟩ := k0; exact DataW.trod_lt m _ _ _ hm
  have k1 := h1
  have lt1 : ∀ x ∈ p1, x.block < W.heap.size := by obtain ⟨m, hm⟩ := k1; exact DataW.trod_lt m _ _ _ hm
  have k2 := h2
  have lt2 : ∀ x ∈ p2, x.block < W.heap.size := by obtain ⟨m, hm⟩ := k2; exact DataW.trod_lt m _ _ _ hm
  obtain ⟨s, rfl, _, _, xs⟩ := open_int Try.underlying3 (hval 0 3 v0 rfl rfl) h0
  have ws := isI_of xs
  obtain ⟨i, rfl, _, _, xi⟩ := open_int Try.underlying3 (hval 1 3 v1 rfl rfl) h1
  have wi := isI_of xi
  obtain ⟨n, rfl, _, _, xn⟩ := open_int Try.underlying22 (hval 2 22 v2 rfl rfl) h2
  have wn := isU_of xn
  clear hA0 hval0 hval
  refine (walk s i n W wn).mono fun e W' ⟨he, bel⟩ => ?_
  subst he
  exact ⟨_, rfl, _, _, _, [], _, [], hW', trodAll_mk1 (shut_bool Try.underlying4 _), (trodAll_cons_mk (Below.trod laid_prog (by kernel_rfl) (of_decide_eq_true (by kernel_rfl)) k0 bel lt0) (trodAll_cons_mk (Below.trod laid_prog (by kernel_rfl) (of_decide_eq_true (by kernel_rfl)) k1 bel lt1) (trodAll_cons_mk (Below.trod laid_prog (by kernel_rfl) (of_decide_eq_true (by kernel_rfl)) k2 bel lt2) trodAll_mk0))), rfl, bel.frame _, fun h => by cases h⟩

set_option maxRecDepth 100000 in
theorem lifted (os : Os) (started : os.Started) (H : Type) (enc : TypeId × Value → H) :
    ReturnsInHanded {} Try.checked os 3 .any (Rows.wordPacksSpec.pre6 enc Try.prog Try.f3 Rows.wordPacksRow.domain false) (Rows.wordPacksSpec.post enc Try.prog Try.f3 false true false false) := by
  refine returnsInHanded_of_change (C := Try.checked) own_prog started (by kernel_rfl) Try.func3
    (ChangeSpec.witness6 (enc := enc) (C := Try.checked) false ⟨#[], #[.int .i64 0, .int .i64 0, .int .u64 0], []⟩ 8 (by kernel_rfl) (by kernel_rfl) (by kernel_rfl) (by kernel_rfl)) ?_
  intro W base args ds gs before hval hW _ _
  exact contract H enc W base args ds gs before hval hW

theorem proved : Rows.WordPacksSaid :=
  OpenClaim.holds_of_wide 3 Try.f3 rfl rfl rfl rfl rfl rfl rfl ⟨rfl, rfl, rfl, rfl, rfl⟩ rfl rfl rfl rfl rfl (by kernel_rfl) Try.func3 (by kernel_rfl)
    (of_decide_eq_true (by kernel_rfl)) (by unfold Func.isWrapper; first | (rw [if_pos (by decide +kernel)]; kernel_rfl) | (rw [if_neg (by decide +kernel)]; exact ⟨rfl, rfl⟩))
    (fun os started H enc _ => lifted os started H enc)

end Go.Proofs.Ytbfgofalgjamaaa.lawWordPacks
