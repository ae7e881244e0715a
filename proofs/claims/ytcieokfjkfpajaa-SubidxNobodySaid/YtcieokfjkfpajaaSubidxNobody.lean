/- An index that is nil, or new, has no watch; a range without keys has none: for every watch and key. No condition. -/
import Derived.Test.YtcieokfjkfpajaaSiAwake
import Derived.Test.YtcieokfjkfpajaaSiLaw
import Derived.Deep.DeepCutAuto
namespace Go.Proofs.Ytcieokfjkfpajaa.lawSubidxNobody
open Go.ChangeShapes Go.WideShapes Go.ChangeAt Go.RowKit Go.Deep Go.ChangeMaps
set_option linter.unusedVariables false
set_option linter.unusedSimpArgs false

theorem nb_empty : emptyB (⟨#[98]⟩ : ByteArray).toList (⟨#[97]⟩ : ByteArray).toList = true := by rw [l98, l97]; rfl
theorem stab_none (k : Bs) (rev : Int) : stabS k rev [] = [] := by simp [stabS, sortI]
set_option maxRecDepth 100000 in
set_option maxHeartbeats 4000000 in
theorem walk (s : Sb) (k : ByteArray) (w : World) (hw : wf64 s.id) :
    Calls Try.prog 8 #[s.val, .string k] w fun e w' => e = .returned (.bool true) ∧ Below w.heap.size w w' := by
  have HAW := Lib.hid fun W => si_awake W
  have HM := Lib.hid fun W => si_made s W
  have HAN := Lib.hid fun W => ix_add_nil W s
  have HDN := Lib.hid fun W => ix_del_nil W s.id
  have HSN := Lib.hid fun W => ix_stab_nil W k 1
  have HLN := Lib.hid fun W => ix_all_nil W
  have HN := Lib.hid fun W => ix_new W
  have HL0 := Lib.hid fun (W : World) p S (h : Ix W p S 0 []) => ix_all h (by omega)
  have HS0 := Lib.hid fun (W : World) p S (h : Ix W p S 0 []) => ix_stab h (by omega) k 1
  rw [stab_none] at HS0
  have HA0 := Lib.hid fun (W : World) p S (h : Ix W p S 0 []) => ix_add h (by omega) ⟨s.id, s.rev, ⟨#[98]⟩, ⟨#[97]⟩⟩ hw
  rw [(addE_empty (L := []) (s := ⟨s.id, s.rev, ⟨#[98]⟩, ⟨#[97]⟩⟩) nb_empty).1, (addE_empty (L := []) (s := ⟨s.id, s.rev, ⟨#[98]⟩, ⟨#[97]⟩⟩) nb_empty).2] at HA0
  have HD0 := Lib.hid fun (W : World) p S (h : Ix W p S 1 []) => ix_del h (by omega) s.id hw
  have e4 : delE [] s.id = 4 := rfl
  rw [e4] at HD0
  clear e4
  obtain ⟨si, sr, sf, st⟩ := s
  unfold Sb.val at *
  dsimp only at *
  have HB := Lib.hid (new_block w (Obj.cells #[.int .i64 si, .int .i64 sr, .string sf, .string st] 32))
  have HF0 := Lib.hid ((Fr.refl [] w).alloc (Obj.cells #[.int .i64 si, .int .i64 sr, .string sf, .string st] 32))
  go_enter Try.func8, Try.ntmps8
  go_wp2_with (go_at_call 9; refine (HAW.out _).mono ?_; rintro e w1 ⟨rfl, hf⟩; refine go_stop ?_)
  have HF1 := Lib.hid (HF0.out.trans hf (by simp))
  have HB1 := Lib.hid (hf.keep HB.out (by simp))
  obtain ⟨x0, x1, x2, x3, _⟩ := cells4 HB1.out
  clear hf HAW HB HF0
  unfold Stop
  go_wp2_with (go_at_call 16; refine (HM.out _).mono ?_; rintro e w2 ⟨rfl, hf⟩; refine go_stop ?_)
  have HF2 := Lib.hid (HF1.out.trans hf (by simp))
  have HB2 := Lib.hid (hf.keep HB1.out (by simp))
  clear hf x0 x1 x2 x3
  unfold Stop
  go_wp2_with (go_at_call 19; refine (HAN.out _).mono ?_; rintro e w3 ⟨rfl, hf⟩; refine go_stop ?_)
  have HF3 := Lib.hid (HF2.out.trans hf (by simp))
  have HB3 := Lib.hid (hf.keep HB2.out (by simp))
  clear hf HAN
  unfold Stop
  go_wp2_with (go_at_call 10; refine (HN.out _).mono ?_; rintro e w4 ⟨p, S, rfl, hx, hf, hge⟩; refine go_stop ?_)
  have HF4 := Lib.hid (HF3.out.trans hf (by simp))
  have HB4 := Lib.hid (hf.keep HB3.out (by simp))
  have HX4 := Lib.hid hx
  have HNB : Hid (∀ k ∈ S, w.heap.size < k) := Lib.hid (fun k hk => by have := hge k hk; have := lt_of_block HB3.out; omega)
  have HG4 : Hid (∀ k ∈ S, w.heap.size ≤ k) := Lib.hid (fun k hk => Nat.le_trans HF3.out.size (hge k hk))
  obtain ⟨x0, x1, x2, x3, _⟩ := cells4 HB4.out
  clear hf hx hge HN
  unfold Stop
  go_wp2_with (go_at_call 16; refine (HM.out _).mono ?_; rintro e w5 ⟨rfl, hf⟩; refine go_stop ?_)
  have HF5 := Lib.hid (HF4.out.trans hf (by simp))
  have HB5 := Lib.hid (hf.keep HB4.out (by simp))
  have HX5 := Lib.hid (HX4.out.keep0 hf)
  clear hf HM x0 x1 x2 x3
  unfold Stop
  obtain ⟨w6, hw6⟩ : ∃ w6, w6 = w5.alloc (Obj.cells #[.int .i64 si, .int .i64 sr, .string ⟨#[98]⟩, .string ⟨#[97]⟩] 41) := ⟨_, rfl⟩
  have HW6 := Lib.hid hw6
  have hf6 : Fr [] w5 w6 := by rw [hw6]; exact (Fr.refl [] w5).alloc _
  have HF6 := Lib.hid (HF5.out.trans hf6 (by simp))
  have HX6 := Lib.hid (HX5.out.keep0 hf6)
  obtain ⟨x0, x1, x2, x3, _⟩ := cells4 (hf6.keep HB5.out (by simp))
  have HV6 : Hid (w6.heap[w5.heap.size]? = some (.cells #[.int .i64 si, .int .i64 sr, .string ⟨#[98]⟩, .string ⟨#[97]⟩] 41 (0, 0))) := Lib.hid (by rw [hw6]; exact new_block _ _)
  have HBX6 := Lib.hid (hf6.keep HB5.out (by simp))
  clear hw6 hf6
  go_upto_region 7 with fail
  rw [← HW6.out]
  go_wp2_with (go_at_call 21; refine (HDN.out _).mono ?_; rintro e w7 ⟨rfl, rfl⟩; refine go_stop ?_)
  clear HDN
  unfold Stop
  go_wp2_with (go_at_call 14; refine (HSN.out _).mono ?_; rintro e w7 ⟨rfl, rfl⟩; refine go_stop ?_)
  clear HSN
  unfold Stop
  go_wp2_with (go_at_call 12; refine (HLN.out _).mono ?_; rintro e w7 ⟨rfl, rfl⟩; refine go_stop ?_)
  clear HLN
  unfold Stop
  go_wp2_with (go_at_call 12; refine (HL0.out _ _ _ HX6.out).mono ?_; rintro e w7 ⟨v7, rfl, ho, hf⟩; refine go_stop ?_)
  obtain ⟨s7, c7, rfl, _⟩ := ho.lies.form
  have HX7 := Lib.hid (HX6.out.keep0 hf)
  have HF7 := Lib.hid (HF6.out.trans hf (by simp))
  have HV7 := Lib.hid (hf.keep HV6.out (by simp))
  have HB7 := Lib.hid (hf.keep HBX6.out (by simp))
  clear ho hf HL0 x0 x1 x2 x3
  unfold Stop
  go_wp2_with (go_at_call 14; refine (HS0.out _ _ _ HX7.out).mono ?_; rintro e w8 ⟨v8, rfl, ho, hf⟩; refine go_stop ?_)
  obtain ⟨s8, c8, rfl, _⟩ := ho.lies.form
  have HX8 := Lib.hid (HX7.out.keep0 hf)
  have HF8 := Lib.hid (HF7.out.trans hf (by simp))
  have HB8 := Lib.hid (hf.keep HB7.out (by simp))
  obtain ⟨y0, y1, y2, y3, _⟩ := cells4 (hf.keep HV7.out (by simp))
  clear ho hf HS0
  unfold Stop
  go_wp2_with (go_at_call 19; refine (HA0.out _ _ _ HX8.out).mono ?_; rintro e w9 ⟨rfl, S9, hx, hf, hg, hs⟩; refine go_stop ?_)
  have HX9 := Lib.hid hx
  have HF9 := Lib.hid (HF8.out.trans hf (fun k hk => Or.inr (HG4.out k hk)))
  have HG9 := Lib.hid (Grow.ge hg HF8.out.size HG4.out)
  obtain ⟨x0, x1, x2, x3, _⟩ := cells4 (hf.keep HB8.out (fun hk => by have := HX4.out.all_lt _ hk; have := lt_of_block HB4.out; have := HNB.out _ hk; omega))
  clear hx hf hg hs HA0 y0 y1 y2 y3
  unfold Stop
  go_wp2_with (go_at_call 21; refine (HD0.out _ _ _ HX9.out).mono ?_; rintro e w10 ⟨rfl, S10, hx, hf, hg, hs⟩; refine go_stop ?_)
  have HF10 := Lib.hid (HF9.out.trans hf (fun k hk => Or.inr (HG9.out k hk)))
  clear hx hf hg hs HD0 x0 x1 x2 x3
  unfold Stop
  go_wp2_with fail
  go_ret
  exact ⟨rfl, HF10.out.below (Nat.le_refl _) (by simp)⟩

set_option maxRecDepth 100000 in
theorem contract (H : Type) (enc : TypeId × Value → H) (W : World) (base : Nat) (args : Array Value) (ds gs : List (DataW H)) (before : List MemPlace)
    (hval0 : ∀ (j : Nat) t v, Try.f8.params[j]? = some t → args[j]? = some v → Value.okWide Try.prog W .any base t v)
    (hW : DataW.Whole enc Try.prog Try.f8.params.toList Rows.subidxNobodySpec.vars false W args.toList ds gs before) :
    Calls Try.prog 8 args W fun e W' => ∃ v, e = .returned v ∧ Rows.subidxNobodySpec.post enc Try.prog Try.f8 false true false false W args v W' := by
  have hval : ∀ (j : Nat) t v, Try.f8.params[j]? = some t → args[j]? = some v → Value.okWide Try.prog W .any base t v := hval0
  have hW' := hW
  obtain ⟨p, q, hA0, hV, rfl, hfz, hnd⟩ := hW
  have hA : DataW.TrodAll enc Try.prog W 0 (fun _ => true) true Try.f8.params.toList args.toList ds p := hA0
  rw [Try.params8] at hA hval
  obtain ⟨v0, vs0, d0, ds0, p0, q0, hargs, rfl, rfl, h0, r0⟩ := trodAll_cons hA
  obtain ⟨v1, vs1, d1, ds1, p1, q1, rfl, rfl, rfl, h1, r1⟩ := trodAll_cons r0
  obtain ⟨rfl, rfl, rfl⟩ := trodAll_nil r1
  obtain rfl : args = #[v0, v1] := by cases args; simp_all
  obtain ⟨rfl, rfl⟩ := trodVars_none hV
  have k0 := h0
  have lt0 : ∀ x ∈ p0, x.block < W.heap.size := by obtain ⟨m, hm⟩ := k0; exact DataW.trod_lt m _ _ _ hm
  have k1 := h1
  have lt1 : ∀ x ∈ p1, x.block < W.heap.size := by obtain ⟨m, hm⟩ := k1; exact DataW.trod_lt m _ _ _ hm
  obtain ⟨s, rfl, ws, _, _, _⟩ := open_sub (hval 0 32 v0 rfl rfl) h0
  obtain ⟨k, rfl, rfl, _, wk⟩ := open_string Try.underlying9 (hval 1 9 v1 rfl rfl) h1
  clear hA0 hval0 hval
  refine (walk s k W ws).mono fun e W' ⟨he, bel⟩ => ?_
  subst he
  exact ⟨_, rfl, _, _, _, [], _, [], hW', trodAll_mk1 (shut_bool Try.underlying4 _), (trodAll_cons_mk (Below.trod laid_prog (by kernel_rfl) (of_decide_eq_true (by kernel_rfl)) k0 bel lt0) (trodAll_cons_mk (Below.trod laid_prog (by kernel_rfl) (of_decide_eq_true (by kernel_rfl)) k1 bel lt1) trodAll_mk0)), rfl, bel.frame _, fun h => by cases h⟩

set_option maxRecDepth 100000 in
theorem lifted (os : Os) (started : os.Started) (H : Type) (enc : TypeId × Value → H) :
    ReturnsInHanded {} Try.checked os 8 .any (Rows.subidxNobodySpec.pre6 enc Try.prog Try.f8 Rows.subidxNobodyRow.domain false) (Rows.subidxNobodySpec.post enc Try.prog Try.f8 false true false false) := by
  refine returnsInHanded_of_change (C := Try.checked) own_prog started (by kernel_rfl) Try.func8
    (ChangeSpec.witness6 (enc := enc) (C := Try.checked) false ⟨#[], #[.agg #[.int .i64 0, .int .i64 0, .string ⟨#[]⟩, .string ⟨#[]⟩], .string ⟨#[]⟩], []⟩ 8 (by kernel_rfl) (by kernel_rfl) (by kernel_rfl) (by kernel_rfl)) ?_
  intro W base args ds gs before hval hW _ _
  exact contract H enc W base args ds gs before hval hW

theorem proved : Rows.SubidxNobodySaid :=
  OpenClaim.holds_of_wide 8 Try.f8 rfl rfl rfl rfl rfl rfl rfl ⟨rfl, rfl, rfl, rfl, rfl⟩ rfl rfl rfl rfl rfl (by kernel_rfl) Try.func8 (by kernel_rfl)
    (of_decide_eq_true (by kernel_rfl)) (by unfold Func.isWrapper; first | (rw [if_pos (by decide +kernel)]; kernel_rfl) | (rw [if_neg (by decide +kernel)]; exact ⟨rfl, rfl⟩))
    (fun os started H enc _ => lifted os started H enc)

end Go.Proofs.Ytcieokfjkfpajaa.lawSubidxNobody
