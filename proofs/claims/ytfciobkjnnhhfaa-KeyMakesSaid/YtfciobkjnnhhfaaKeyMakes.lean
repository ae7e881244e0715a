/- The range of any key, of what begins with it, and what any two ranges have in common: the document's, for every two ranges and every string. No condition. -/
import Derived.Test.YtfciobkjnnhhfaaKeyLaw
import Derived.Test.YtfciobkjnnhhfaaAfter
namespace Go.Proofs.Ytfciobkjnnhhfaa.lawKeyMakes
open Go.ChangeShapes Go.WideShapes Go.ChangeAt Go.RowKit Go.Deep Go.ChangeMaps
set_option linter.unusedVariables false
set_option linter.unusedSimpArgs false

set_option maxRecDepth 100000 in
set_option maxHeartbeats 4000000 in
theorem walk (f t g u k : ByteArray) (w : World) (wk : k.size ≤ maxLen) (zk : k.size ≤ 140737488355328) :
    Calls Try.prog 4 #[.agg #[.string f, .string t], .agg #[.string g, .string u], .string k] w fun e w' => e = .returned (.bool true) ∧ Below w.heap.size w w' := by
  have cm : CV 18 #[.agg #[.string f, .string t], .agg #[.string g, .string u]] (.tuple #[.agg #[.string (meetR f t g u).1, .string (meetR f t g u).2.1], .bool (meetR f t g u).2.2]) := ⟨fun W => key_meet f t g u W⟩
  have rm : CV 19 #[.agg #[.string f, .string t], .agg #[.string g, .string u]] (.tuple #[.agg #[.string (meetR f t g u).1, .string (meetR f t g u).2.1], .bool (meetR f t g u).2.2]) := ⟨fun W => rmeet_ran f t g u W⟩
  obtain ⟨M, hM⟩ : ∃ M, M = meetR f t g u := ⟨_, rfl⟩
  rw [← hM] at cm rm
  obtain ⟨mf, mt, mi⟩ := M
  dsimp only at cm rm
  clear hM
  have c1 : CV 20 #[.string k] (.agg #[.string k, .string (k ++ ⟨#[0]⟩)]) := ⟨fun W => key_one k W zk⟩
  have r1 : CV 21 #[.string k] (.agg #[.string k, .string (k ++ ⟨#[0]⟩)]) := ⟨fun W => rone_any k W zk⟩
  obtain ⟨k1, hk1⟩ : ∃ b, b = k ++ ⟨#[0]⟩ := ⟨_, rfl⟩
  rw [← hk1] at c1 r1
  have c2 : CV 22 #[.string k] (.agg #[.string k, .string (prefS k)]) := ⟨fun W => key_prefix k W zk⟩
  have r2 : CV 23 #[.string k] (.agg #[.string k, .string (prefS k)]) := ⟨fun W => rprefix_ran k W zk⟩
  obtain ⟨k2, hk2⟩ : ∃ b, b = prefS k := ⟨_, rfl⟩
  rw [← hk2] at c2 r2
  clear hk1 hk2 zk wk
  go_enter Try.func4, Try.ntmps4
  go_wp2_with (first | (go_at_call 9; refine (key_awake _).mono ?_; rintro e w1 ⟨rfl, h1⟩; obtain ⟨x1, x2⟩ := blk2 w _ _; have HC := Lib.hid (h1.keep x1 (by simp)); have HD := Lib.hid (h1.keep x2 (by simp)); obtain ⟨ka0, ka1, _⟩ := cells2 HC.out; obtain ⟨kb0, kb1, _⟩ := cells2 HD.out; have HF := Lib.hid ((((Fr.refl [] w).alloc _).alloc _).trans h1 (by simp)); clear h1 x1 x2) | (go_at_call 18; refine (cm.out _).mono ?_; rintro e w2 ⟨rfl, h2⟩; refine go_stop ?_))
  unfold Stop
  have HC2 := h2.keep HC.out (by simp)
  have HD2 := h2.keep HD.out (by simp)
  obtain ⟨p0, p1, _⟩ := cells2 (w := w2.alloc (Obj.cells #[.string mf, .string mt] 23)) ((Below.heap_alloc _ _ _ (lt_of_block HC2)).trans HC2)
  obtain ⟨q0, q1, _⟩ := cells2 (w := w2.alloc (Obj.cells #[.string mf, .string mt] 23)) ((Below.heap_alloc _ _ _ (lt_of_block HD2)).trans HD2)
  have HC3 := Lib.hid ((Below.heap_alloc w2 (Obj.cells #[.string mf, .string mt] 23) _ (lt_of_block HC2)).trans HC2)
  have HD3 := Lib.hid ((Below.heap_alloc w2 (Obj.cells #[.string mf, .string mt] 23) _ (lt_of_block HD2)).trans HD2)
  replace HF := Lib.hid ((HF.out.trans h2 (by simp)).alloc (Obj.cells #[.string mf, .string mt] 23))
  clear HC HD HC2 HD2 h2
  go_wp2_with (go_at_call 19; refine (rm.out _).mono ?_; rintro e w3 ⟨rfl, h3⟩; refine go_stop ?_)
  unfold Stop
  have HM1 := h3.keep (new_block w2 _) (by simp)
  have HM := Lib.hid ((Below.heap_alloc w3 (Obj.cells #[.string mf, .string mt] 23) _ (lt_of_block HM1)).trans HM1)
  have HN := Lib.hid (new_block w3 (Obj.cells #[.string mf, .string mt] 23))
  have HC1 := h3.keep HC3.out (by simp)
  have HD1 := h3.keep HD3.out (by simp)
  have HC := Lib.hid ((Below.heap_alloc w3 (Obj.cells #[.string mf, .string mt] 23) _ (lt_of_block HC1)).trans HC1)
  have HD := Lib.hid ((Below.heap_alloc w3 (Obj.cells #[.string mf, .string mt] 23) _ (lt_of_block HD1)).trans HD1)
  obtain ⟨m0, m1, _⟩ := cells2 HM.out
  obtain ⟨n0, n1, _⟩ := cells2 HN.out
  obtain ⟨kr0, kr1, _⟩ := cells2 HC.out
  obtain ⟨ks0, ks1, _⟩ := cells2 HD.out
  replace HF := Lib.hid ((HF.out.trans h3 (by simp)).alloc (Obj.cells #[.string mf, .string mt] 23))
  clear HC1 HD1 HM1 HC3 HD3 h3
  go_wp2_with (first
    | (go_at_call 20; refine (c1.out _).mono ?_; rintro e wn ⟨rfl, hq⟩; replace HM := Lib.hid (hq.keep HM.out (by simp)); replace HN := Lib.hid (hq.keep HN.out (by simp)); obtain ⟨m0, m1, _⟩ := cells2 HM.out; obtain ⟨n0, n1, _⟩ := cells2 HN.out; have hz : Fr [] w wn := (by first | exact HF.out.trans hq (by simp) | exact HF.out.drew.trans hq (by simp) | exact (HF.out.drewN _).trans hq (by simp)); replace HF := Lib.hid hz; clear hq hz)
    | (go_at_call 21; refine (r1.out _).mono ?_; rintro e wn ⟨rfl, hq⟩; replace HM := Lib.hid (hq.keep HM.out (by simp)); replace HN := Lib.hid (hq.keep HN.out (by simp)); obtain ⟨m0, m1, _⟩ := cells2 HM.out; obtain ⟨n0, n1, _⟩ := cells2 HN.out; have hz : Fr [] w wn := (by first | exact HF.out.trans hq (by simp) | exact HF.out.drew.trans hq (by simp) | exact (HF.out.drewN _).trans hq (by simp)); replace HF := Lib.hid hz; clear hq hz)
    | (go_at_call 22; refine (c2.out _).mono ?_; rintro e wn ⟨rfl, hq⟩; replace HM := Lib.hid (hq.keep HM.out (by simp)); replace HN := Lib.hid (hq.keep HN.out (by simp)); obtain ⟨m0, m1, _⟩ := cells2 HM.out; obtain ⟨n0, n1, _⟩ := cells2 HN.out; have hz : Fr [] w wn := (by first | exact HF.out.trans hq (by simp) | exact HF.out.drew.trans hq (by simp) | exact (HF.out.drewN _).trans hq (by simp)); replace HF := Lib.hid hz; clear hq hz)
    | (go_at_call 23; refine (r2.out _).mono ?_; rintro e wn ⟨rfl, hq⟩; replace HM := Lib.hid (hq.keep HM.out (by simp)); replace HN := Lib.hid (hq.keep HN.out (by simp)); obtain ⟨m0, m1, _⟩ := cells2 HM.out; obtain ⟨n0, n1, _⟩ := cells2 HN.out; have hz : Fr [] w wn := (by first | exact HF.out.trans hq (by simp) | exact HF.out.drew.trans hq (by simp) | exact (HF.out.drewN _).trans hq (by simp)); replace HF := Lib.hid hz; clear hq hz))
  go_ret
  exact ⟨rfl, HF.out.below (Nat.le_refl _) (by simp)⟩

set_option maxRecDepth 100000 in
theorem contract (H : Type) (enc : TypeId × Value → H) (W : World) (base : Nat) (args : Array Value) (ds gs : List (DataW H)) (before : List MemPlace)
    (hval0 : ∀ (j : Nat) t v, Try.f4.params[j]? = some t → args[j]? = some v → Value.okWide Try.prog W .any base t v)
    (hW : DataW.Whole enc Try.prog Try.f4.params.toList Rows.keyMakesSpec.vars false W args.toList ds gs before)
    (hsz : (DataW.weightsEach Try.prog (Try.f4.params.toList ++ Rows.keyMakesSpec.plain.varTypes Try.prog) (ds ++ gs)).all (· ≤ reachBytes) = true) :
    Calls Try.prog 4 args W fun e W' => ∃ v, e = .returned v ∧ Rows.keyMakesSpec.post enc Try.prog Try.f4 false true false false W args v W' := by
  have hval : ∀ (j : Nat) t v, Try.f4.params[j]? = some t → args[j]? = some v → Value.okWide Try.prog W .any base t v := hval0
  have hW' := hW
  obtain ⟨p, q, hA0, hV, rfl, hfz, hnd⟩ := hW
  have hA : DataW.TrodAll enc Try.prog W 0 (fun _ => true) true Try.f4.params.toList args.toList ds p := hA0
  rw [Try.params4] at hA hval
  obtain ⟨v0, vs0, d0, ds0, p0, q0, hargs, rfl, rfl, h0, r0⟩ := trodAll_cons hA
  obtain ⟨v1, vs1, d1, ds1, p1, q1, rfl, rfl, rfl, h1, r1⟩ := trodAll_cons r0
  obtain ⟨v2, vs2, d2, ds2, p2, q2, rfl, rfl, rfl, h2, r2⟩ := trodAll_cons r1
  obtain ⟨rfl, rfl, rfl⟩ := trodAll_nil r2
  obtain rfl : args = #[v0, v1, v2] := by cases args; simp_all
  obtain ⟨rfl, rfl⟩ := trodVars_none hV
  have k0 := h0
  have lt0 : ∀ x ∈ p0, x.block < W.heap.size := by obtain ⟨m, hm⟩ := k0; exact DataW.trod_lt m _ _ _ hm
  have k1 := h1
  have lt1 : ∀ x ∈ p1, x.block < W.heap.size := by obtain ⟨m, hm⟩ := k1; exact DataW.trod_lt m _ _ _ hm
  have k2 := h2
  have lt2 : ∀ x ∈ p2, x.block < W.heap.size := by obtain ⟨m, hm⟩ := k2; exact DataW.trod_lt m _ _ _ hm
  obtain ⟨f, t, rfl, wf, wt⟩ := open_range (hval 0 23 v0 rfl rfl) h0
  obtain ⟨g, u, rfl, wg, wu⟩ := open_range (hval 1 23 v1 rfl rfl) h1
  obtain ⟨k, rfl, rfl, _, wk⟩ := open_string Try.underlying9 (hval 2 9 v2 rfl rfl) h2
  have zk : k.size ≤ 140737488355328 := by have h1 := sized_string hsz (j := 2) rfl rfl; have h2 := reachBytes_lt; have h3 : k.data.toList.length = k.size := (by simp); omega
  clear hA0 hval0 hval
  refine (walk f t g u k W wk zk).mono fun e W' ⟨he, bel⟩ => ?_
  subst he
  exact ⟨_, rfl, _, _, _, [], _, [], hW', trodAll_mk1 (shut_bool Try.underlying4 _), (trodAll_cons_mk (Below.trod laid_prog (by kernel_rfl) (of_decide_eq_true (by kernel_rfl)) k0 bel lt0) (trodAll_cons_mk (Below.trod laid_prog (by kernel_rfl) (of_decide_eq_true (by kernel_rfl)) k1 bel lt1) (trodAll_cons_mk (Below.trod laid_prog (by kernel_rfl) (of_decide_eq_true (by kernel_rfl)) k2 bel lt2) trodAll_mk0))), rfl, bel.frame _, fun h => by cases h⟩

set_option maxRecDepth 100000 in
theorem lifted (os : Os) (started : os.Started) (H : Type) (enc : TypeId × Value → H) :
    ReturnsInHanded {} Try.checked os 4 .any (Rows.keyMakesSpec.pre6 enc Try.prog Try.f4 Rows.keyMakesRow.domain false) (Rows.keyMakesSpec.post enc Try.prog Try.f4 false true false false) := by
  refine returnsInHanded_of_change_sized (C := Try.checked) own_prog started (by kernel_rfl) Try.func4
    (ChangeSpec.witness6 (enc := enc) (C := Try.checked) false ⟨#[], #[.agg #[.string ⟨#[]⟩, .string ⟨#[]⟩], .agg #[.string ⟨#[]⟩, .string ⟨#[]⟩], .string ⟨#[]⟩], []⟩ 8 (by kernel_rfl) (by kernel_rfl) (by kernel_rfl) (by kernel_rfl)) ?_
  intro W base args ds gs before hval hW _ hsz _
  exact contract H enc W base args ds gs before hval hW hsz

theorem proved : Rows.KeyMakesSaid :=
  OpenClaim.holds_of_wide 4 Try.f4 rfl rfl rfl rfl rfl rfl rfl ⟨rfl, rfl, rfl, rfl, rfl⟩ rfl rfl rfl rfl rfl (by kernel_rfl) Try.func4 (by kernel_rfl)
    (of_decide_eq_true (by kernel_rfl)) (by unfold Func.isWrapper; first | (rw [if_pos (by decide +kernel)]; kernel_rfl) | (rw [if_neg (by decide +kernel)]; exact ⟨rfl, rfl⟩))
    (fun os started H enc _ => lifted os started H enc)

end Go.Proofs.Ytfciobkjnnhhfaa.lawKeyMakes
