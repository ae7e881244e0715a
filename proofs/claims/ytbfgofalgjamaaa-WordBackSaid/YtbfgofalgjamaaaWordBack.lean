/- A state, and what is done, are told there and back; so is a word: for every two numbers and every word. No condition. -/
import Derived.Test.YtbfgofalgjamaaaWdLaw
namespace Go.Proofs.Ytbfgofalgjamaaa.lawWordBack
open Go.ChangeShapes Go.WideShapes Go.ChangeAt Go.RowKit Go.Deep Go.ChangeMaps
set_option linter.unusedVariables false
set_option linter.unusedSimpArgs false

set_option maxRecDepth 100000 in
set_option maxHeartbeats 40000000 in
theorem walk (s i n : Int) (w : World) (ws : 0 ≤ s ∧ s < 256) (wi : 0 ≤ i ∧ i < 4294967296) (wn : IsU n) :
    Calls Try.prog 5 #[.int .u8 s, .int .u32 i, .int .u64 n] w fun e w' => e = .returned (.bool true) ∧ Below w.heap.size w w' := by
  obtain ⟨x, hx⟩ : ∃ x, packW (s % 4) i = x := ⟨_, rfl⟩
  have x0 : IsU x := hx ▸ isU_packW _ _
  have x1 : x % 4 = s % 4 := by rw [← hx]; unfold packW; omega
  have x2 : x / 4 = i := by rw [← hx]; unfold packW; omega
  have x3 : packW (n % 4) (n / 4) = n := by unfold packW; omega
  have c1 : CW 10 #[.int .i64 (s % 4), .int .i64 i] (.int .u64 x) := to_fr fun W => hx ▸ wd_pack (s % 4) i W
  have c2 : CW 12 #[.int .u64 x] (.int .i64 (s % 4)) := to_fr fun W => x1 ▸ wd_state x W x0
  have c3 : CW 14 #[.int .u64 x] (.int .i64 i) := to_fr fun W => (by have h := wd_info x W x0; rw [x2] at h; exact h)
  have c4 : CW 12 #[.int .u64 n] (.int .i64 (n % 4)) := to_fr fun W => wd_state n W wn
  have c5 : CW 14 #[.int .u64 n] (.int .i64 (n / 4)) := to_fr fun W => wd_info n W wn
  have c6 : CW 10 #[.int .i64 (n % 4), .int .i64 (n / 4)] (.int .u64 n) := to_fr fun W => (by have h := wd_pack (n % 4) (n / 4) W; rw [x3] at h; exact h)
  have y1 : wrap64 (s % 4) = s % 4 := w64 (by omega) (by omega)
  have y2 : wrap64 i = i := w64 (by omega) (by omega)
  have s0 := ws.1
  clear x0 x1 x2 x3 hx wn ws
  go_enter Try.func5, Try.ntmps5
  go_wp2_with (go_at_call 9; refine go_stop ?_)
  unfold Stop
  refine (wd_awake _).mono ?_
  rintro e w1 ⟨rfl, hw⟩
  go_wp2_with (go_at_call 10; refine go_stop ?_)
  unfold Stop
  refine (c1.out _).mono ?_
  rintro e w2 ⟨rfl, k⟩
  dsimp only
  replace hw := hw.trans k (by simp)
  clear k
  go_wp2_with (go_at_call 12; refine go_stop ?_)
  unfold Stop
  refine (c2.out _).mono ?_
  rintro e w3 ⟨rfl, k⟩
  dsimp only
  replace hw := hw.trans k (by simp)
  clear k
  go_wp2_with (go_at_call 14; refine go_stop ?_)
  unfold Stop
  refine (c3.out _).mono ?_
  rintro e w4 ⟨rfl, k⟩
  dsimp only
  replace hw := hw.trans k (by simp)
  clear k
  go_wp2_with (go_at_call 12; refine go_stop ?_)
  unfold Stop
  refine (c4.out _).mono ?_
  rintro e w5 ⟨rfl, k⟩
  dsimp only
  replace hw := hw.trans k (by simp)
  clear k
  go_wp2_with (go_at_call 14; refine go_stop ?_)
  unfold Stop
  refine (c5.out _).mono ?_
  rintro e w6 ⟨rfl, k⟩
  dsimp only
  replace hw := hw.trans k (by simp)
  clear k
  go_wp2_with (go_at_call 10; refine go_stop ?_)
  unfold Stop
  refine (c6.out _).mono ?_
  rintro e w7 ⟨rfl, k⟩
  dsimp only
  replace hw := hw.trans k (by simp)
  clear k
  go_wp2
  go_ret
  exact ⟨rfl, hw.below (Nat.le_refl _) (by simp)⟩

set_option maxRecDepth 100000 in
theorem contract (H : Type) (enc : TypeId × Value → H) (W : World) (base : Nat) (args : Array Value) (ds gs : List (DataW H)) (before : List MemPlace)
    (hval0 : ∀ (j : Nat) t v, Try.f5.params[j]? = some t → args[j]? = some v → Value.okWide Try.prog W .any base t v)
    (hW : DataW.Whole enc Try.prog Try.f5.params.toList Rows.wordBackSpec.vars false W args.toList ds gs before) :
    Calls Try.prog 5 args W fun e W' => ∃ v, e = .returned v ∧ Rows.wordBackSpec.post enc Try.prog Try.f5 false true false false W args v W' := by
  have hval : ∀ (j : Nat) t v, Try.f5.params[j]? = some t → args[j]? = some v → Value.okWide Try.prog W .any base t v := hval0
  have hW' := hW
  obtain ⟨p, q, hA0, hV, rfl, hfz, hnd⟩ := hW
  have hA : DataW.TrodAll enc Try.prog W 0 (fun _ => true) true Try.f5.params.toList args.toList ds p := hA0
  rw [Try.params5] at hA hval
  obtain ⟨v0, vs0, d0, ds0, p0, q0, hargs, rfl, rfl, h0, r0⟩ := trodAll_cons hA
  obtain ⟨v1, vs1, d1, ds1, p1, q1, rfl, rfl, rfl, h1, r1⟩ := trodAll_cons r0
  obtain ⟨v2, vs2, d2, ds2, p2, q2, rfl, rfl, rfl, h2, r2⟩ := trodAll_cons r1
  obtain ⟨rfl, rfl, rfl⟩ := trodAll_nil r2
  obtain rfl : args = #[v0, v1, v2] := by cases args; simp_all
  obtain ⟨rfl, rfl⟩ := trodVars_none hV
  have k0 := h0
  have lt0 : ∀ x ∈ p0, x.block < W.heap.size := by obtain ⟨m, hm⟩ := k0; exact DataW.trod_lt m _ _ _ hm
  have k1 := h1
  have lt1 : ∀ x ∈ p1, x.block < W.heap.size := by obtain ⟨m, hm⟩ := k1; exact DataW.trod_lt m _ _ _ hm
  have k2 := h2
  have lt2 : ∀ x ∈ p2, x.block < W.heap.size := by obtain ⟨m, hm⟩ := k2; exact DataW.trod_lt m _ _ _ hm
  obtain ⟨s, rfl, _, _, xs⟩ := open_int Try.underlying5 (hval 0 5 v0 rfl rfl) h0
  have ws := is8_of xs
  obtain ⟨i, rfl, _, _, xi⟩ := open_int Try.underlying33 (hval 1 33 v1 rfl rfl) h1
  have wi := is32_of xi
  obtain ⟨n, rfl, _, _, xn⟩ := open_int Try.underlying22 (hval 2 22 v2 rfl rfl) h2
  have wn := isU_of xn
  clear hA0 hval0 hval
  refine (walk s i n W ws wi wn).mono fun e W' ⟨he, bel⟩ => ?_
  subst he
  exact ⟨_, rfl, _, _, _, [], _, [], hW', trodAll_mk1 (shut_bool Try.underlying4 _), (trodAll_cons_mk (Below.trod laid_prog (by kernel_rfl) (of_decide_eq_true (by kernel_rfl)) k0 bel lt0) (trodAll_cons_mk (Below.trod laid_prog (by kernel_rfl) (of_decide_eq_true (by kernel_rfl)) k1 bel lt1) (trodAll_cons_mk (Below.trod laid_prog (by kernel_rfl) (of_decide_eq_true (by kernel_rfl)) k2 bel lt2) trodAll_mk0))), rfl, bel.frame _, fun h => by cases h⟩

set_option maxRecDepth 100000 in
theorem lifted (os : Os) (started : os.Started) (H : Type) (enc : TypeId × Value → H) :
    ReturnsInHanded {} Try.checked os 5 .any (Rows.wordBackSpec.pre6 enc Try.prog Try.f5 Rows.wordBackRow.domain false) (Rows.wordBackSpec.post enc Try.prog Try.f5 false true false false) := by
  refine returnsInHanded_of_change (C := Try.checked) own_prog started (by kernel_rfl) Try.func5
    (ChangeSpec.witness6 (enc := enc) (C := Try.checked) false ⟨#[], #[.int .u8 0, .int .u32 0, .int .u64 0], []⟩ 8 (by kernel_rfl) (by kernel_rfl) (by kernel_rfl) (by kernel_rfl)) ?_
  intro W base args ds gs before hval hW _ _
  exact contract H enc W base args ds gs before hval hW

theorem proved : Rows.WordBackSaid :=
  OpenClaim.holds_of_wide 5 Try.f5 rfl rfl rfl rfl rfl rfl rfl ⟨rfl, rfl, rfl, rfl, rfl⟩ rfl rfl rfl rfl rfl (by kernel_rfl) Try.func5 (by kernel_rfl)
    (of_decide_eq_true (by kernel_rfl)) (by unfold Func.isWrapper; first | (rw [if_pos (by decide +kernel)]; kernel_rfl) | (rw [if_neg (by decide +kernel)]; exact ⟨rfl, rfl⟩))
    (fun os started H enc _ => lifted os started H enc)

end Go.Proofs.Ytbfgofalgjamaaa.lawWordBack
