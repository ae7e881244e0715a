/- Of any number the place and the generation, and of a slab that is nil nothing; the ref 0 is of no record; what has no room is nil: for every word and every two ints. No condition. -/
import Derived.Test.YtkampbbginamhaaSlabLaw
namespace Go.Proofs.Ytkampbbginamhaa.lawSlabEdges
open Go.ChangeShapes Go.WideShapes Go.ChangeAt Go.RowKit Go.Deep
set_option linter.unusedVariables false
set_option linter.unusedSimpArgs false

theorem new_no_any (w : World) (W0 pm : Nat) (words most : Int) {v m} (h : MemAt w pm v m) (hl : m.c.length ≤ 65536) (hno : ¬ (1 ≤ words ∧ 1 ≤ most ∧ words ≤ 65536 / most)) (hf : ∀ k ∈ MemAt.foot pm v, W0 ≤ k) :
    Calls Try.prog 23 #[.pointer (some ⟨pm, 0, none⟩), .int .i64 words, .int .i64 most] w fun e w' => e = .returned (.pointer none) ∧ ∃ S, Fr S w w' ∧ ∀ k ∈ S, W0 ≤ k := by
  have hfit : slabFits m words most = false := by
    unfold slabFits
    rw [decide_eq_false_iff_not]
    rintro ⟨h1, h2, h3⟩
    refine hno ⟨h1, h2, ?_⟩
    rw [Int.le_ediv_iff_mul_le (by omega)]
    omega
  refine (slab_new_no w pm words most h hl hno).mono fun e w' hm => ?_
  obtain ⟨he, v', _, hf', _⟩ := hm.no hfit
  exact ⟨he, _, hf', hf⟩
theorem mem_new0 (w : World) : Calls Try.prog 24 #[.int .i64 0] w fun e w' => ∃ p v, e = .returned (.pointer (some ⟨p, 0, none⟩)) ∧ MemAt w' p v ⟨[], 0⟩ ∧ Fr [] w w' ∧ ∀ k ∈ MemAt.foot p v, w.heap.size ≤ k := by
  refine (new_any w 0).mono fun e w' h => ?_
  unfold MadeMem at h
  rw [if_pos (by omega)] at h
  obtain ⟨p, v, he, hm, hf, hp, hv⟩ := h
  refine ⟨p, v, he, hm, hf, fun k hk => ?_⟩
  simp only [MemAt.foot, List.mem_cons, Option.mem_toList] at hk
  rcases hk with rfl | h
  · exact hp
  · exact hv k h

set_option maxRecDepth 100000 in
set_option maxHeartbeats 2000000 in
theorem walk (r ws mo : Int) (w : World) (wr : (Lit.int .u64 r).wf = true) :
    Calls Try.prog 8 #[.int .u64 r, .int .i64 ws, .int .i64 mo] w fun e w' => e = .returned (.bool true) ∧ Below w.heap.size w w' := by
  have hr := wf_word wr
  have PL := Lib.hid (slab_place r · hr)
  have GE := Lib.hid (slab_gen r · hr)
  have RP := Lib.hid (rplace_any r · hr)
  have RG := Lib.hid (rgen_any r · hr)
  clear wr hr
  go_enter Try.func8, Try.ntmps8
  go_wp2_with (first | (go_at_call 9; refine (slab_awake _).mono ?_; rintro e w1 ⟨rfl, h1⟩; have HA := Lib.hid h1; clear h1) | (go_at_call 22; refine (slab_alloc_nil _).mono ?_; rintro e w2 ⟨rfl, rfl⟩) | (go_at_call 19; refine (slab_cellof_nil _ _ _).mono ?_; rintro e w2 ⟨rfl, rfl⟩) | (go_at_call 10; refine (begun_34 _).mono ?_; rintro e w2 ⟨V, FT, rfl, hb, hf, hn⟩; refine go_stop ?_))
  obtain ⟨p, pm, mv, rv, mx, k, gx, tx, fx, lv, rfl, hown, hl, hlv, hlt, ⟨ma, mn, mc, rfl⟩, ⟨ga, gn, gc, rfl⟩, ⟨ta, tn, tc, rfl⟩, ⟨fa, fn, fc, rfl⟩, la, lc, rfl⟩ := hb.own
  have hx : ∀ X, Fr [] w2 X → Calls Try.prog 19 #[.pointer (some ⟨p, 0, none⟩), .int .u64 0, .int .i64 0] X fun e w' => e = .returned (.tuple #[.int .i64 0, .int .i64 4]) ∧ ∃ k, w' = X.drewN k := fun X hX => by
    have h := own_cell (hown.keep hX (by simp)) 0 0 (by unfold IsW; omega) inv34.ok
    rw [SS.cellV, SS.cellE, SS.has_zero] at h
    exact h
  have HX := Lib.hid hx
  have HF2 := Lib.hid (HA.out.trans hf (by simp))
  clear hf hn hlt hl hlv hb hown hx
  unfold Stop
  go_wp2_with (go_at_call 19; refine (HX.out _ (by exact (Fr.refl [] w2).alloc _)).mono ?_; rintro e w3 ⟨rfl, k1, rfl⟩; refine go_stop ?_)
  have HF3 := Lib.hid ((HF2.out.alloc (.cells #[.pointer (some ⟨p, 0, none⟩), .pointer (some ⟨pm, 0, none⟩), .slice ma mn mc, .int .i64 k, .int .i64 s34.first, .int .i64 s34.words, .slice ga gn gc, .slice ta tn tc, .slice fa fn fc, .slice la 0 lc] 34)).drewN k1)
  unfold Stop
  go_wp2_with (go_at_call 24; refine (mem_new0 _).mono ?_; rintro e w4 ⟨q1, v1, rfl, m1, f1, n1⟩; refine go_stop ?_)
  have HF4 := Lib.hid (HF3.out.trans f1 (by simp))
  have HN1 := Lib.hid (new_no_any w4 w.heap.size q1 65537 1 m1 (by simp) (by omega) (fun j hj => by have := n1 j hj; have := HF3.out.size; omega))
  clear m1 f1 n1
  unfold Stop
  go_wp2_with (go_at_call 23; refine HN1.out.mono ?_; rintro e w5 ⟨rfl, S1, f1, n1⟩; refine go_stop ?_)
  have HF5 := Lib.hid (HF4.out.trans f1 (fun j hj => Or.inr (n1 j hj)))
  clear f1 n1
  unfold Stop
  go_wp2_with (go_at_call 24; refine (mem_new0 _).mono ?_; rintro e w6 ⟨q2, v2, rfl, m1, f1, n1⟩; refine go_stop ?_)
  have HF6 := Lib.hid (HF5.out.trans f1 (by simp))
  have HN2 := Lib.hid (new_no_any w6 w.heap.size q2 1 65537 m1 (by simp) (by omega) (fun j hj => by have := n1 j hj; have := HF5.out.size; omega))
  clear m1 f1 n1
  unfold Stop
  go_wp2_with (go_at_call 23; refine HN2.out.mono ?_; rintro e w7 ⟨rfl, S2, f1, n1⟩; refine go_stop ?_)
  have HF7 := Lib.hid (HF6.out.trans f1 (fun j hj => Or.inr (n1 j hj)))
  clear f1 n1
  unfold Stop
  go_wp2_with (go_at_call 23; refine (slab_new_nil _ _ _).mono ?_; rintro e w8 ⟨rfl, rfl⟩; refine go_stop ?_)
  unfold Stop
  go_wp2_with (go_at_call 24; refine (mem_new0 _).mono ?_; rintro e w8 ⟨q3, v3, rfl, m1, f1, n1⟩; refine go_stop ?_)
  have HF8 := Lib.hid (HF7.out.trans f1 (by simp))
  have HN3 := Lib.hid (new_no_any w8 w.heap.size q3 0 1 m1 (by simp) (by omega) (fun j hj => by have := n1 j hj; have := HF7.out.size; omega))
  clear m1 f1 n1
  unfold Stop
  go_wp2_with (go_at_call 23; refine HN3.out.mono ?_; rintro e w9 ⟨rfl, S3, f1, n1⟩; refine go_stop ?_)
  have HF9 := Lib.hid (HF8.out.trans f1 (fun j hj => Or.inr (n1 j hj)))
  clear f1 n1
  unfold Stop
  have hz1 : (plc r == plc r) = true := by simp
  have hz2 : (gnr r == gnr r) = true := by simp
  go_wp2_with (first | (go_at_call 21; refine (slab_free_nil _ _).mono ?_; rintro e w10 ⟨rfl, rfl⟩) | (go_at_call 12; refine (slab_live_nil _).mono ?_; rintro e w10 ⟨rfl, rfl⟩) | (go_at_call 17; refine (PL.out _).mono ?_; rintro e w10 ⟨rfl, rfl⟩) | (go_at_call 18; refine (GE.out _).mono ?_; rintro e w10 ⟨rfl, rfl⟩) | (go_at_call 25; refine (RP.out _).mono ?_; rintro e w10 ⟨rfl, rfl⟩) | (go_at_call 26; refine (RG.out _).mono ?_; rintro e w10 ⟨rfl, rfl⟩))
  go_ret
  exact ⟨rfl, HF9.out.below (Nat.le_refl _) (by simp)⟩

set_option maxRecDepth 100000 in
theorem contract (H : Type) (enc : TypeId × Value → H) (W : World) (base : Nat) (args : Array Value) (ds gs : List (DataW H)) (before : List MemPlace)
    (hval0 : ∀ (j : Nat) t v, Try.f8.params[j]? = some t → args[j]? = some v → Value.okWide Try.prog W .any base t v)
    (hW : DataW.Whole enc Try.prog Try.f8.params.toList Rows.slabEdgesSpec.vars false W args.toList ds gs before) :
    Calls Try.prog 8 args W fun e W' => ∃ v, e = .returned v ∧ Rows.slabEdgesSpec.post enc Try.prog Try.f8 false true false false W args v W' := by
  have hval : ∀ (j : Nat) t v, Try.f8.params[j]? = some t → args[j]? = some v → Value.okWide Try.prog W .any base t v := hval0
  have hW' := hW
  obtain ⟨p, q, hA0, hV, rfl, hfz, hnd⟩ := hW
  have hA : DataW.TrodAll enc Try.prog W 0 (fun _ => true) true Try.f8.params.toList args.toList ds p := hA0
  rw [Try.params8] at hA hval
  obtain ⟨v0, vs0, d0, ds0, p0, q0, hargs, rfl, rfl, h0, r0⟩ := trodAll_cons hA
  obtain ⟨v1, vs1, d1, ds1, p1, q1, rfl, rfl, rfl, h1, r1⟩ := trodAll_cons r0
  obtain ⟨v2, vs2, d2, ds2, p2, q2, rfl, rfl, rfl, h2, r2⟩ := trodAll_cons r1
  obtain ⟨rfl, rfl, rfl⟩ := trodAll_nil r2
  obtain rfl : args = #[v0, v1, v2] := by cases args; simp_all
  obtain ⟨rfl, rfl⟩ := trodVars_none hV
  have k0 := h0
  have lt0 : ∀ x ∈ p0, x.block < W.heap.size := by obtain ⟨m, hm⟩ := k0; exact DataW.trod_lt m _ _ _ hm
  have k1 := h1
  have lt1 : ∀ x ∈ p1, x.block < W.heap.size := by obtain ⟨m, hm⟩ := k1; exact DataW.trod_lt m _ _ _ hm
  have k2 := h2
  have lt2 : ∀ x ∈ p2, x.block < W.heap.size := by obtain ⟨m, hm⟩ := k2; exact DataW.trod_lt m _ _ _ hm
  obtain ⟨r, rfl, _, _, wr⟩ := open_int Try.underlying38 (hval 0 38 v0 rfl rfl) h0
  obtain ⟨ws, rfl, _, _, wws⟩ := open_int Try.underlying3 (hval 1 3 v1 rfl rfl) h1
  obtain ⟨mo, rfl, _, _, wmo⟩ := open_int Try.underlying3 (hval 2 3 v2 rfl rfl) h2
  clear hA0 hval0 hval
  refine (walk r ws mo W wr).mono fun e W' ⟨he, bel⟩ => ?_
  subst he
  exact ⟨_, rfl, _, _, _, [], _, [], hW', trodAll_mk1 (shut_bool Try.underlying4 _), (trodAll_cons_mk (Below.trod laid_prog (by kernel_rfl) (of_decide_eq_true (by kernel_rfl)) k0 bel lt0) (trodAll_cons_mk (Below.trod laid_prog (by kernel_rfl) (of_decide_eq_true (by kernel_rfl)) k1 bel lt1) (trodAll_cons_mk (Below.trod laid_prog (by kernel_rfl) (of_decide_eq_true (by kernel_rfl)) k2 bel lt2) trodAll_mk0))), rfl, bel.frame _, fun h => by cases h⟩

set_option maxRecDepth 100000 in
theorem lifted (os : Os) (started : os.Started) (H : Type) (enc : TypeId × Value → H) :
    ReturnsInHanded {} Try.checked os 8 .any (Rows.slabEdgesSpec.pre6 enc Try.prog Try.f8 Rows.slabEdgesRow.domain false) (Rows.slabEdgesSpec.post enc Try.prog Try.f8 false true false false) := by
  refine returnsInHanded_of_change (C := Try.checked) own_prog started (by kernel_rfl) Try.func8
    (ChangeSpec.witness6 (enc := enc) (C := Try.checked) false ⟨#[], #[.int .u64 0, .int .i64 0, .int .i64 0], []⟩ 8 (by kernel_rfl) (by kernel_rfl) (by kernel_rfl) (by kernel_rfl)) ?_
  intro W base args ds gs before hval hW _ _
  exact contract H enc W base args ds gs before hval hW

theorem proved : Rows.SlabEdgesSaid :=
  OpenClaim.holds_of_wide 8 Try.f8 rfl rfl rfl rfl rfl rfl rfl ⟨rfl, rfl, rfl, rfl, rfl⟩ rfl rfl rfl rfl rfl (by kernel_rfl) Try.func8 (by kernel_rfl)
    (of_decide_eq_true (by kernel_rfl)) (by unfold Func.isWrapper; first | (rw [if_pos (by decide +kernel)]; kernel_rfl) | (rw [if_neg (by decide +kernel)]; exact ⟨rfl, rfl⟩))
    (fun os started H enc _ => lifted os started H enc)

end Go.Proofs.Ytkampbbginamhaa.lawSlabEdges
