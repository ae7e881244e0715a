/- Whether any key, and any range, may be, whether it has the key, and whether it is empty: the document's answers, for every range and every string. No condition. -/
import Derived.Test.YtfciobkjnnhhfaaKeyLaw
import Derived.Test.YtfciobkjnnhhfaaAfter
namespace Go.Proofs.Ytfciobkjnnhhfaa.lawKeyTells
open Go.ChangeShapes Go.WideShapes Go.ChangeAt Go.RowKit Go.Deep Go.ChangeMaps
set_option linter.unusedVariables false
set_option linter.unusedSimpArgs false

set_option maxRecDepth 100000 in
set_option maxHeartbeats 4000000 in
theorem walk (f t k : ByteArray) (w : World) (wf : f.size ≤ maxLen) (wt : t.size ≤ maxLen) (wk : k.size ≤ maxLen) :
    Calls Try.prog 3 #[.agg #[.string f, .string t], .string k] w fun e w' => e = .returned (.bool true) ∧ Below w.heap.size w w' := by
  have c1 : CV 10 #[.string k] (.bool (mayB k.toList)) := ⟨fun W => key_may k W wk⟩
  have r1 : CV 11 #[.string k] (.bool (mayB k.toList)) := ⟨fun W => (rmay_any k W wk).mono fun e w' h => ⟨h.1, h.2 ▸ Fr.refl _ _⟩⟩
  obtain ⟨b1, hb1⟩ : ∃ b, b = mayB k.toList := ⟨_, rfl⟩
  rw [← hb1] at c1 r1
  have c2 : CV 12 #[.agg #[.string f, .string t]] (.bool (mayRangeB f.toList t.toList)) := ⟨fun W => key_mayrange f t W wf wt⟩
  have r2 : CV 13 #[.agg #[.string f, .string t]] (.bool (mayRangeB f.toList t.toList)) := ⟨fun W => rmayrange_any f t W wf wt⟩
  obtain ⟨b2, hb2⟩ : ∃ b, b = mayRangeB f.toList t.toList := ⟨_, rfl⟩
  rw [← hb2] at c2 r2
  have c3 : CV 14 #[.agg #[.string f, .string t], .string k] (.bool (inB f.toList t.toList k.toList)) := ⟨fun W => key_in f t k W⟩
  have r3 : CV 15 #[.agg #[.string f, .string t], .string k] (.bool (inB f.toList t.toList k.toList)) := ⟨fun W => rin_any f t k W⟩
  obtain ⟨b3, hb3⟩ : ∃ b, b = inB f.toList t.toList k.toList := ⟨_, rfl⟩
  rw [← hb3] at c3 r3
  have c4 : CV 16 #[.agg #[.string f, .string t]] (.bool (emptyB f.toList t.toList)) := ⟨fun W => key_empty f t W⟩
  have r4 : CV 17 #[.agg #[.string f, .string t]] (.bool (emptyB f.toList t.toList)) := ⟨fun W => rempty_any f t W⟩
  obtain ⟨b4, hb4⟩ : ∃ b, b = emptyB f.toList t.toList := ⟨_, rfl⟩
  rw [← hb4] at c4 r4
  clear hb1 hb2 hb3 hb4 wf wt wk
  go_enter Try.func3, Try.ntmps3
  go_wp2_with (first | (go_at_call 9; refine (key_awake _).mono ?_; rintro e w1 ⟨rfl, h1⟩; have HC := Lib.hid (h1.keep (new_block w _) (by simp)); obtain ⟨a0, a1, _⟩ := cells2 HC.out; have HF := Lib.hid (((Fr.refl [] w).alloc _).trans h1 (by simp)); clear h1) | fail)
  go_region_held3 (fun w' => w'.cell? ⟨w.heap.size, 0, none⟩ = some (.string f) ∧ w'.cell? ⟨w.heap.size, 1, none⟩ = some (.string t)) (go_keep) (first
    | (go_at_call 10; refine (c1.out _).mono ?_; rintro e wn ⟨rfl, hq⟩; replace HC := Lib.hid (hq.keep HC.out (by simp)); obtain ⟨a0, a1, _⟩ := cells2 HC.out; have hz : Fr [] w wn := (by first | exact HF.out.trans hq (by simp) | exact HF.out.drew.trans hq (by simp) | exact (HF.out.drewN _).trans hq (by simp)); replace HF := Lib.hid hz; clear hq hz)
    | (go_at_call 11; refine (r1.out _).mono ?_; rintro e wn ⟨rfl, hq⟩; replace HC := Lib.hid (hq.keep HC.out (by simp)); obtain ⟨a0, a1, _⟩ := cells2 HC.out; have hz : Fr [] w wn := (by first | exact HF.out.trans hq (by simp) | exact HF.out.drew.trans hq (by simp) | exact (HF.out.drewN _).trans hq (by simp)); replace HF := Lib.hid hz; clear hq hz)
    | (go_at_call 12; refine (c2.out _).mono ?_; rintro e wn ⟨rfl, hq⟩; replace HC := Lib.hid (hq.keep HC.out (by simp)); obtain ⟨a0, a1, _⟩ := cells2 HC.out; have hz : Fr [] w wn := (by first | exact HF.out.trans hq (by simp) | exact HF.out.drew.trans hq (by simp) | exact (HF.out.drewN _).trans hq (by simp)); replace HF := Lib.hid hz; clear hq hz)
    | (go_at_call 13; refine (r2.out _).mono ?_; rintro e wn ⟨rfl, hq⟩; replace HC := Lib.hid (hq.keep HC.out (by simp)); obtain ⟨a0, a1, _⟩ := cells2 HC.out; have hz : Fr [] w wn := (by first | exact HF.out.trans hq (by simp) | exact HF.out.drew.trans hq (by simp) | exact (HF.out.drewN _).trans hq (by simp)); replace HF := Lib.hid hz; clear hq hz)
    | (go_at_call 14; refine (c3.out _).mono ?_; rintro e wn ⟨rfl, hq⟩; replace HC := Lib.hid (hq.keep HC.out (by simp)); obtain ⟨a0, a1, _⟩ := cells2 HC.out; have hz : Fr [] w wn := (by first | exact HF.out.trans hq (by simp) | exact HF.out.drew.trans hq (by simp) | exact (HF.out.drewN _).trans hq (by simp)); replace HF := Lib.hid hz; clear hq hz)
    | (go_at_call 15; refine (r3.out _).mono ?_; rintro e wn ⟨rfl, hq⟩; replace HC := Lib.hid (hq.keep HC.out (by simp)); obtain ⟨a0, a1, _⟩ := cells2 HC.out; have hz : Fr [] w wn := (by first | exact HF.out.trans hq (by simp) | exact HF.out.drew.trans hq (by simp) | exact (HF.out.drewN _).trans hq (by simp)); replace HF := Lib.hid hz; clear hq hz)
    | (go_at_call 16; refine (c4.out _).mono ?_; rintro e wn ⟨rfl, hq⟩; replace HC := Lib.hid (hq.keep HC.out (by simp)); obtain ⟨a0, a1, _⟩ := cells2 HC.out; have hz : Fr [] w wn := (by first | exact HF.out.trans hq (by simp) | exact HF.out.drew.trans hq (by simp) | exact (HF.out.drewN _).trans hq (by simp)); replace HF := Lib.hid hz; clear hq hz)
    | (go_at_call 17; refine (r4.out _).mono ?_; rintro e wn ⟨rfl, hq⟩; replace HC := Lib.hid (hq.keep HC.out (by simp)); obtain ⟨a0, a1, _⟩ := cells2 HC.out; have hz : Fr [] w wn := (by first | exact HF.out.trans hq (by simp) | exact HF.out.drew.trans hq (by simp) | exact (HF.out.drewN _).trans hq (by simp)); replace HF := Lib.hid hz; clear hq hz))
  go_wp2
  go_ret
  exact ⟨rfl, HF.out.below (Nat.le_refl _) (by simp)⟩

set_option maxRecDepth 100000 in
theorem contract (H : Type) (enc : TypeId × Value → H) (W : World) (base : Nat) (args : Array Value) (ds gs : List (DataW H)) (before : List MemPlace)
    (hval0 : ∀ (j : Nat) t v, Try.f3.params[j]? = some t → args[j]? = some v → Value.okWide Try.prog W .any base t v)
    (hW : DataW.Whole enc Try.prog Try.f3.params.toList Rows.keyTellsSpec.vars false W args.toList ds gs before) :
    Calls Try.prog 3 args W fun e W' => ∃ v, e = .returned v ∧ Rows.keyTellsSpec.post enc Try.prog Try.f3 false true false false W args v W' := by
  have hval : ∀ (j : Nat) t v, Try.f3.params[j]? = some t → args[j]? = some v → Value.okWide Try.prog W .any base t v := hval0
  have hW' := hW
  obtain ⟨p, q, hA0, hV, rfl, hfz, hnd⟩ := hW
  have hA : DataW.TrodAll enc Try.prog W 0 (fun _ => true) true Try.f3.params.toList args.toList ds p := hA0
  rw [Try.params3] at hA hval
  obtain ⟨v0, vs0, d0, ds0, p0, q0, hargs, rfl, rfl, h0, r0⟩ := trodAll_cons hA
  obtain ⟨v1, vs1, d1, ds1, p1, q1, rfl, rfl, rfl, h1, r1⟩ := trodAll_cons r0
  obtain ⟨rfl, rfl, rfl⟩ := trodAll_nil r1
  obtain rfl : args = #[v0, v1] := by cases args; simp_all
  obtain ⟨rfl, rfl⟩ := trodVars_none hV
  have k0 := h0
  have lt0 : ∀ x ∈ p0, x.block < W.heap.size := by obtain ⟨m, hm⟩ := k0; exact DataW.trod_lt m _ _ _ hm
  have k1 := h1
  have lt1 : ∀ x ∈ p1, x.block < W.heap.size := by obtain ⟨m, hm⟩ := k1; exact DataW.trod_lt m _ _ _ hm
  obtain ⟨f, t, rfl, wf, wt⟩ := open_range (hval 0 23 v0 rfl rfl) h0
  obtain ⟨k, rfl, rfl, _, wk⟩ := open_string Try.underlying9 (hval 1 9 v1 rfl rfl) h1
  clear hA0 hval0 hval
  refine (walk f t k W wf wt wk).mono fun e W' ⟨he, bel⟩ => ?_
  subst he
  exact ⟨_, rfl, _, _, _, [], _, [], hW', trodAll_mk1 (shut_bool Try.underlying4 _), (trodAll_cons_mk (Below.trod laid_prog (by kernel_rfl) (of_decide_eq_true (by kernel_rfl)) k0 bel lt0) (trodAll_cons_mk (Below.trod laid_prog (by kernel_rfl) (of_decide_eq_true (by kernel_rfl)) k1 bel lt1) trodAll_mk0)), rfl, bel.frame _, fun h => by cases h⟩

set_option maxRecDepth 100000 in
theorem lifted (os : Os) (started : os.Started) (H : Type) (enc : TypeId × Value → H) :
    ReturnsInHanded {} Try.checked os 3 .any (Rows.keyTellsSpec.pre6 enc Try.prog Try.f3 Rows.keyTellsRow.domain false) (Rows.keyTellsSpec.post enc Try.prog Try.f3 false true false false) := by
  refine returnsInHanded_of_change (C := Try.checked) own_prog started (by kernel_rfl) Try.func3
    (ChangeSpec.witness6 (enc := enc) (C := Try.checked) false ⟨#[], #[.agg #[.string ⟨#[]⟩, .string ⟨#[]⟩], .string ⟨#[]⟩], []⟩ 8 (by kernel_rfl) (by kernel_rfl) (by kernel_rfl) (by kernel_rfl)) ?_
  intro W base args ds gs before hval hW _ _
  exact contract H enc W base args ds gs before hval hW

theorem proved : Rows.KeyTellsSaid :=
  OpenClaim.holds_of_wide 3 Try.f3 rfl rfl rfl rfl rfl rfl rfl ⟨rfl, rfl, rfl, rfl, rfl⟩ rfl rfl rfl rfl rfl (by kernel_rfl) Try.func3 (by kernel_rfl)
    (of_decide_eq_true (by kernel_rfl)) (by unfold Func.isWrapper; first | (rw [if_pos (by decide +kernel)]; kernel_rfl) | (rw [if_neg (by decide +kernel)]; exact ⟨rfl, rfl⟩))
    (fun os started H enc _ => lifted os started H enc)

end Go.Proofs.Ytfciobkjnnhhfaa.lawKeyTells
