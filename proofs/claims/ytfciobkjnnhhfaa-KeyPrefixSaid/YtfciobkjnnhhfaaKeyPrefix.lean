/- The range of a prefix has just the keys that begin so: for every two strings. No condition. -/
import Derived.Test.YtfciobkjnnhhfaaKeyLaw
import Derived.Test.YtfciobkjnnhhfaaAfter
namespace Go.Proofs.Ytfciobkjnnhhfaa.lawKeyPrefix
open Go.ChangeShapes Go.WideShapes Go.ChangeAt Go.RowKit Go.Deep Go.ChangeMaps
set_option linter.unusedVariables false
set_option linter.unusedSimpArgs false

set_option maxRecDepth 100000 in
set_option maxHeartbeats 4000000 in
theorem walk (p k : ByteArray) (w : World) (wp : p.size ≤ maxLen) (wk : k.size ≤ maxLen) (zp : p.size ≤ 140737488355328) (zk : k.size ≤ 140737488355328) :
    Calls Try.prog 6 #[.string p, .string k] w fun e w' => e = .returned (.bool true) ∧ Below w.heap.size w w' := by
  obtain ⟨q, hq⟩ : ∃ q, q = prefS p := ⟨_, rfl⟩
  have e1 : q.toList = prefB p.toList := by rw [hq, prefS_list]
  have c1 : CV 22 #[.string p] (.agg #[.string p, .string q]) := ⟨fun W => by rw [hq]; exact key_prefix p W zp⟩
  have v2 : inB p.toList q.toList k.toList = p.toList.isPrefixOf k.toList := by rw [e1, pref_begins]
  have v3 : Hid (inB p.toList q.toList (p ++ k).toList = true) := Lib.hid (by rw [e1, bs_app, pref_self])
  have c4 : CV 16 #[.agg #[.string p, .string q]] (.bool false) := ⟨fun W => by have := key_empty p q W; rw [e1, pref_empty] at this; exact this⟩
  have eb : p.size ≤ k.size → ((k.extract 0 p.size).toList == p.toList) = p.toList.isPrefixOf k.toList := by
    intro _
    rw [bs_take, ← bs_len, Bool.eq_iff_iff, List.isPrefixOf_iff_prefix, List.prefix_iff_eq_take, beq_iff_eq]
    exact eq_comm
  have en : ¬ p.size ≤ k.size → p.toList.isPrefixOf k.toList = false := by
    intro h
    rw [Bool.eq_false_iff]
    intro hp
    have := (List.isPrefixOf_iff_prefix.1 hp).length_le
    rw [bs_len, bs_len] at this
    exact h this
  obtain ⟨b, hb⟩ : ∃ b, p.toList.isPrefixOf k.toList = b := ⟨_, rfl⟩
  rw [hb] at v2 eb en
  replace v2 := Lib.hid v2
  clear e1 hq hb
  unfold maxLen at wp wk
  by_cases hle : p.size ≤ k.size
  all_goals first
    | (have eb := eb hle
       have t1 : decide ((p.size : Int) ≤ (k.size : Int)) = true := by simp; omega
       have t2 : min (p.size : Int) (k.size : Int) = (p.size : Int) := by omega
       cases b)
    | (have eb := en hle
       have t1 : decide ((p.size : Int) ≤ (k.size : Int)) = false := by simp; omega
       subst eb)
  all_goals clear en
  all_goals
    go_enter Try.func6, Try.ntmps6
    go_wp2_with (first
    | (go_at_call 9; refine (key_awake _).mono ?_; rintro e w1 ⟨rfl, h1⟩; have HF := Lib.hid h1; clear h1)
    | (go_at_call 22; refine (c1.out _).mono ?_; rintro e wn ⟨rfl, hq⟩; have hz : Fr [] w wn := (by first | exact HF.out.trans hq (by simp) | exact HF.out.drew.trans hq (by simp) | exact (HF.out.drewN _).trans hq (by simp)); replace HF := Lib.hid hz; clear hq hz)
    | (go_at_call 14; refine (key_in _ _ _ _).mono ?_; rintro e wn ⟨rfl, hq⟩; (first | rw [v2.out] | rw [v3.out]); have hz : Fr [] w wn := (by first | exact HF.out.trans hq (by simp) | exact HF.out.drew.trans hq (by simp) | exact (HF.out.drewN _).trans hq (by simp)); replace HF := Lib.hid hz; clear hq hz)
    | (go_at_call 16; refine (c4.out _).mono ?_; rintro e wn ⟨rfl, hq⟩; have hz : Fr [] w wn := (by first | exact HF.out.trans hq (by simp) | exact HF.out.drew.trans hq (by simp) | exact (HF.out.drewN _).trans hq (by simp)); replace HF := Lib.hid hz; clear hq hz))
  all_goals go_ret
  all_goals exact ⟨rfl, HF.out.below (Nat.le_refl _) (by simp)⟩

set_option maxRecDepth 100000 in
theorem contract (H : Type) (enc : TypeId × Value → H) (W : World) (base : Nat) (args : Array Value) (ds gs : List (DataW H)) (before : List MemPlace)
    (hval0 : ∀ (j : Nat) t v, Try.f6.params[j]? = some t → args[j]? = some v → Value.okWide Try.prog W .any base t v)
    (hW : DataW.Whole enc Try.prog Try.f6.params.toList Rows.keyPrefixSpec.vars false W args.toList ds gs before)
    (hsz : (DataW.weightsEach Try.prog (Try.f6.params.toList ++ Rows.keyPrefixSpec.plain.varTypes Try.prog) (ds ++ gs)).all (· ≤ reachBytes) = true) :
    Calls Try.prog 6 args W fun e W' => ∃ v, e = .returned v ∧ Rows.keyPrefixSpec.post enc Try.prog Try.f6 false true false false W args v W' := by
  have hval : ∀ (j : Nat) t v, Try.f6.params[j]? = some t → args[j]? = some v → Value.okWide Try.prog W .any base t v := hval0
  have hW' := hW
  obtain ⟨p, q, hA0, hV, rfl, hfz, hnd⟩ := hW
  have hA : DataW.TrodAll enc Try.prog W 0 (fun _ => true) true Try.f6.params.toList args.toList ds p := hA0
  rw [Try.params6] at hA hval
  obtain ⟨v0, vs0, d0, ds0, p0, q0, hargs, rfl, rfl, h0, r0⟩ := trodAll_cons hA
  obtain ⟨v1, vs1, d1, ds1, p1, q1, rfl, rfl, rfl, h1, r1⟩ := trodAll_cons r0
  obtain ⟨rfl, rfl, rfl⟩ := trodAll_nil r1
  obtain rfl : args = #[v0, v1] := by cases args; simp_all
  obtain ⟨rfl, rfl⟩ := trodVars_none hV
  have k0 := h0
  have lt0 : ∀ x ∈ p0, x.block < W.heap.size := by obtain ⟨m, hm⟩ := k0; exact DataW.trod_lt m _ _ _ hm
  have k1 := h1
  have lt1 : ∀ x ∈ p1, x.block < W.heap.size := by obtain ⟨m, hm⟩ := k1; exact DataW.trod_lt m _ _ _ hm
  obtain ⟨p, rfl, rfl, _, wp⟩ := open_string Try.underlying9 (hval 0 9 v0 rfl rfl) h0
  obtain ⟨k, rfl, rfl, _, wk⟩ := open_string Try.underlying9 (hval 1 9 v1 rfl rfl) h1
  have zp : p.size ≤ 140737488355328 := by have h1 := sized_string hsz (j := 0) rfl rfl; have h2 := reachBytes_lt; have h3 : p.data.toList.length = p.size := (by simp); omega
  have zk : k.size ≤ 140737488355328 := by have h1 := sized_string hsz (j := 1) rfl rfl; have h2 := reachBytes_lt; have h3 : k.data.toList.length = k.size := (by simp); omega
  clear hA0 hval0 hval
  refine (walk p k W wp wk zp zk).mono fun e W' ⟨he, bel⟩ => ?_
  subst he
  exact ⟨_, rfl, _, _, _, [], _, [], hW', trodAll_mk1 (shut_bool Try.underlying4 _), (trodAll_cons_mk (Below.trod laid_prog (by kernel_rfl) (of_decide_eq_true (by kernel_rfl)) k0 bel lt0) (trodAll_cons_mk (Below.trod laid_prog (by kernel_rfl) (of_decide_eq_true (by kernel_rfl)) k1 bel lt1) trodAll_mk0)), rfl, bel.frame _, fun h => by cases h⟩

set_option maxRecDepth 100000 in
theorem lifted (os : Os) (started : os.Started) (H : Type) (enc : TypeId × Value → H) :
    ReturnsInHanded {} Try.checked os 6 .any (Rows.keyPrefixSpec.pre6 enc Try.prog Try.f6 Rows.keyPrefixRow.domain false) (Rows.keyPrefixSpec.post enc Try.prog Try.f6 false true false false) := by
  refine returnsInHanded_of_change_sized (C := Try.checked) own_prog started (by kernel_rfl) Try.func6
    (ChangeSpec.witness6 (enc := enc) (C := Try.checked) false ⟨#[], #[.string ⟨#[]⟩, .string ⟨#[]⟩], []⟩ 8 (by kernel_rfl) (by kernel_rfl) (by kernel_rfl) (by kernel_rfl)) ?_
  intro W base args ds gs before hval hW _ hsz _
  exact contract H enc W base args ds gs before hval hW hsz

theorem proved : Rows.KeyPrefixSaid :=
  OpenClaim.holds_of_wide 6 Try.f6 rfl rfl rfl rfl rfl rfl rfl ⟨rfl, rfl, rfl, rfl, rfl⟩ rfl rfl rfl rfl rfl (by kernel_rfl) Try.func6 (by kernel_rfl)
    (of_decide_eq_true (by kernel_rfl)) (by unfold Func.isWrapper; first | (rw [if_pos (by decide +kernel)]; kernel_rfl) | (rw [if_neg (by decide +kernel)]; exact ⟨rfl, rfl⟩))
    (fun os started H enc _ => lifted os started H enc)

end Go.Proofs.Ytfciobkjnnhhfaa.lawKeyPrefix
