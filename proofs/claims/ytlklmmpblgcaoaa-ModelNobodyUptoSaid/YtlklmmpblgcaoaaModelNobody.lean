/- A model that is nil is of nothing; a new one, too; its map is a copy: for every request and every list of ops. Condition: what is read is of bulk at most 1048576. -/
import Derived.Test.YtlklmmpblgcaoaaMdAwake
import Derived.Test.YtlklmmpblgcaoaaMdLaw
import Derived.Test.YtlklmmpblgcaoaaHist
import Derived.Test.YtlklmmpblgcaoaaUpto
namespace Go.Proofs.Ytlklmmpblgcaoaa.lawModelNobody
open Go.ChangeShapes Go.WideShapes Go.ChangeAt Go.RowKit Go.Deep Go.ChangeMaps
set_option linter.unusedVariables false
set_option linter.unusedSimpArgs false

set_option maxRecDepth 100000 in
set_option maxHeartbeats 8000000 in
theorem walk (lv : Value) (q : Rq) (l : List Od) (cv tv ev : Value) (w : World) (hq : RqIn w q cv tv ev) (hl : OdIn w lv l) (bl : l.length ≤ 1048576) : Calls Try.prog 7 #[.agg #[.int .i64 q.kind, .string q.f, .string q.t, .int .i64 q.rev, cv, tv, ev], lv] w fun e w' => e = .returned (.bool true) ∧ Below w.heap.size w w' := by
  obtain ⟨s1, c1, rfl, la, ma⟩ := LIn.form hl
  obtain ⟨s2, c2, rfl, l2, m2⟩ := LIn.form hq.c
  obtain ⟨s3, c3, rfl, l3, m3⟩ := LIn.form hq.t
  obtain ⟨s4, c4, rfl, l4, m4⟩ := LIn.form hq.e
  have HL := Lib.hid hl
  clear hl hq
  obtain ⟨wb, hwb⟩ : ∃ wb, wb = w.alloc (rqB q (.slice s2 q.cmps.length c2) (.slice s3 q.thn.length c3) (.slice s4 q.els.length c4)) := ⟨_, rfl⟩
  have HWB : Hid (wb = w.alloc (.cells #[.int .i64 q.kind, .string q.f, .string q.t, .int .i64 q.rev, .slice s2 q.cmps.length c2, .slice s3 q.thn.length c3, .slice s4 q.els.length c4] 39)) := Lib.hid hwb
  have HF0 : Hid (Fr [] w wb) := Lib.hid (by rw [hwb]; exact (Fr.refl [] w).alloc _)
  have HB0 : Hid (wb.heap[w.heap.size]? = some (.cells #[.int .i64 q.kind, .string q.f, .string q.t, .int .i64 q.rev, .slice s2 q.cmps.length c2, .slice s3 q.thn.length c3, .slice s4 q.els.length c4] 39 (0, 0))) := Lib.hid (by rw [hwb]; exact new_block w _)
  clear hwb
  have hfd : ∀ W, (Instr.field 32 (.agg #[.int .i64 0, .int .i64 0, .int .i64 0, .int .i64 1, .bool false, .slice none 0 0]) 1).run Try.prog W = .ok (.int .i64 1) W := fun _ => by kernel_rfl
  have heq : ∀ W : World, (binOp .eql 28 (.agg #[.int .i64 0, .int .i64 0, .int .i64 0]) (.agg #[.int .i64 0, .int .i64 0, .int .i64 0])).run Try.prog W = .ok (.bool true) W := fun W => by simp [go_sem]
  go_enter Try.func7, Try.ntmps7
  go_upto_region 1 with fail
  rw [← HWB.out]
  go_wp2_with (first
    | (go_at_call 8; refine (mdl_awake _).mono ?_; rintro e w1 ⟨rfl, h1⟩; have HF := Lib.hid (HF0.out.trans h1 (by simp)); have HB := Lib.hid (h1.keep HB0.out (by simp)); clear h1)
    | (go_at_call 9; refine (mdl_new _).mono ?_; rintro e w2 ⟨p, S, rfl, h1, h2, h3⟩; refine go_stop ?_))
  unfold Stop
  have HS := Lib.hid h1
  have HG : Hid (∀ k ∈ S, w.heap.size < k) := Lib.hid (fun k hk => by have := h3 k hk; have := lt_of_block HB.out; omega)
  replace HF := Lib.hid (HF.out.trans h2 (by simp))
  replace HB := Lib.hid (h2.keep HB.out (by simp))
  clear h1 h2 h3
  go_wp2_with (go_at_call 15; refine (mdl_hist (n := 0) HS.out MOk.zero (by omega)).mono ?_; rintro e w3 ⟨pa, Sa, rfl, h1, h2, h3⟩; refine go_stop ?_)
  unfold Stop
  have HA := Lib.hid h1
  have HAN : Hid (∀ k ∈ S, k ∉ Sa) := Lib.hid (fun k hk hm => by have := h3 k hm; have := HS.out.lt k hk; omega)
  have HAG : Hid (∀ k ∈ Sa, w.heap.size < k) := Lib.hid (fun k hk => by have := h3 k hk; have := lt_of_block HB.out; omega)
  replace HF := Lib.hid (HF.out.trans h2 (by simp))
  replace HB := Lib.hid (h2.keep HB.out (by simp))
  replace HS := Lib.hid (HS.out.keep h2 (by simp))
  clear h1 h2 h3
  have HLF : Hid (LFar Sa Od.cells 3 w3 (.slice s1 l.length c1) l) := Lib.hid ((LFar.of_old HL.out (fun k hk => Nat.le_of_lt (HAG.out k hk))).keep0 HF.out)
  go_wp2_with (go_at_call 22; refine (hist_apply (n := 0) _ l HA.out HOk.zero (by omega) HLF.out (by omega)).mono ?_; rintro e w4 ⟨v4, S4, rfl, h1, h2, h3, h4, h5⟩; refine go_stop ?_)
  unfold Stop
  replace HF := Lib.hid (HF.out.trans h4 (fun k hk => Or.inr (Nat.le_of_lt (HAG.out k hk))))
  replace HB := Lib.hid (h4.keep HB.out (fun hm => by have := HAG.out _ hm; omega))
  replace HS := Lib.hid (HS.out.keep h4 HAN.out)
  clear h1 h2 h3 h4 h5
  obtain ⟨d0, d1, d2, d3, d4, d5, d6, _⟩ := cells7 HB.out
  have HHZ : Hid (∀ X, Fr [] w4 X → Calls Try.prog 13 #[.pointer (some ⟨p, 0, none⟩)] X fun e w' => e = .returned (.agg #[.int .i64 0, .int .i64 0, .int .i64 0]) ∧ Fr [] X w') := Lib.hid (fun X hX => mdl_head (HS.out.keep hX (by simp)))
  go_wp2_with (go_at_call 11; refine (mdl_serve_nil _ _).mono ?_; rintro e w5 ⟨rfl, h1⟩; refine go_stop ?_)
  unfold Stop
  have HF5 := Lib.hid h1
  clear h1
  go_wp2_with (go_at_call 13; refine (mdl_head_nil _).mono ?_; rintro e w6 ⟨rfl, h1⟩; refine go_stop ?_)
  unfold Stop
  have HF6 := Lib.hid (HF5.out.trans h1 (by simp))
  clear h1
  go_wp2_with (go_at_call 15; refine (mdl_hist_nil _).mono ?_; rintro e w7 ⟨rfl, h1⟩; refine go_stop ?_)
  unfold Stop
  have HF7 := Lib.hid (HF6.out.trans h1 (by simp))
  clear h1
  go_wp2_with (go_at_call 13; refine (HHZ.out _ HF7.out).mono ?_; rintro e w8 ⟨rfl, h1⟩; refine go_stop ?_)
  unfold Stop
  have HF8 := Lib.hid (HF7.out.trans h1 (by simp))
  clear h1
  go_wp2_with (go_at_call 15; refine (mdl_hist (n := 0) (HS.out.keep HF8.out (by simp)) MOk.zero (by omega)).mono ?_; rintro e w9 ⟨pb, Sb, rfl, h1, h2, h3⟩; refine go_stop ?_)
  unfold Stop
  have HBB := Lib.hid h1
  have HF9 := Lib.hid (HF8.out.trans h2 (by simp))
  clear h1 h2 h3
  go_wp2_with (go_at_call 17; refine (hist_rev HBB.out).mono ?_; rintro e wn ⟨rfl, rfl⟩; refine go_stop ?_)
  unfold Stop
  go_wp2_with fail
  go_ret
  exact ⟨rfl, (HF.out.trans HF9.out (by simp)).below (Nat.le_refl _) (by simp)⟩

set_option maxRecDepth 100000 in
theorem contract (H : Type) (enc : TypeId × Value → H) (W : World) (base : Nat) (args : Array Value) (ds gs : List (DataW H)) (before : List MemPlace)
    (hval0 : ∀ (j : Nat) t v, Try.f7.params[j]? = some t → args[j]? = some v → Value.okWide Try.prog W .any base t v)
    (hW : DataW.Whole enc Try.prog Try.f7.params.toList Rows.modelNobodySpec.vars false W args.toList ds gs before) (hk : Rows.uptoSmall H (ds ++ gs) = true) :
    Calls Try.prog 7 args W fun e W' => ∃ v, e = .returned v ∧ Rows.modelNobodySpec.post enc Try.prog Try.f7 false true false false W args v W' := by
  have hval : ∀ (j : Nat) t v, Try.f7.params[j]? = some t → args[j]? = some v → Value.okWide Try.prog W .any base t v := hval0
  have hW' := hW
  obtain ⟨p, q, hA0, hV, rfl, hfz, hnd⟩ := hW
  have hA : DataW.TrodAll enc Try.prog W 0 (fun _ => true) true Try.f7.params.toList args.toList ds p := hA0
  rw [Try.params7] at hA hval
  obtain ⟨v0, vs0, d0, ds0, p0, q0, hargs, rfl, rfl, h0, r0⟩ := trodAll_cons hA
  obtain ⟨v1, vs1, d1, ds1, p1, q1, rfl, rfl, rfl, h1, r1⟩ := trodAll_cons r0
  obtain ⟨rfl, rfl, rfl⟩ := trodAll_nil r1
  obtain rfl : args = #[v0, v1] := by cases args; simp_all
  obtain ⟨rfl, rfl⟩ := trodVars_none hV
  have k0 := h0
  have lt0 : ∀ x ∈ p0, x.block < W.heap.size := by obtain ⟨m, hm⟩ := k0; exact DataW.trod_lt m _ _ _ hm
  have k1 := h1
  have lt1 : ∀ x ∈ p1, x.block < W.heap.size := by obtain ⟨m, hm⟩ := k1; exact DataW.trod_lt m _ _ _ hm
  obtain ⟨q, cv, tv, ev, rfl, hq⟩ := open_req (hval 0 39 v0 rfl rfl) h0
  obtain ⟨l, hl⟩ := open_ops (hval 1 37 v1 rfl rfl) h1
  have bl : l.length ≤ 1048576 := by
    obtain ⟨sx, cx, ex, _⟩ := LIn.form hl
    have hx := h1
    rw [ex] at hx
    have h1 := upto_slice Try.underlying37 hx
    have h2 := of_decide_eq_true hk
    simp only [List.cons_append, List.nil_append, Rows.uptoBulkAll] at h2
    omega
  clear hA0 hval0 hval
  refine (walk v1 q l cv tv ev W hq hl bl).mono fun e W' ⟨he, bel⟩ => ?_
  subst he
  exact ⟨_, rfl, _, _, _, [], _, [], hW', trodAll_mk1 (shut_bool Try.underlying4 _), (trodAll_cons_mk (Below.trod laid_prog (by kernel_rfl) (of_decide_eq_true (by kernel_rfl)) k0 bel lt0) (trodAll_cons_mk (Below.trod laid_prog (by kernel_rfl) (of_decide_eq_true (by kernel_rfl)) k1 bel lt1) trodAll_mk0)), rfl, bel.frame _, fun h => by cases h⟩

set_option maxRecDepth 100000 in
theorem lifted (os : Os) (started : os.Started) (H : Type) (enc : TypeId × Value → H) (F : Stop.Interp) :
    ReturnsInHanded {} Try.checked os 7 .any ((Rows.OpenSpec.upto Rows.modelNobodySpec).pre6 enc Try.prog Try.f7 Rows.modelNobodyUptoRow.domain false) (((Rows.OpenSpec.upto Rows.modelNobodySpec).at F).post enc Try.prog Try.f7 false true false false) := by
  refine returnsInHanded_of_cond (C := Try.checked) (s := (Rows.OpenSpec.upto Rows.modelNobodySpec)) (k := Rows.uptoSmall) rfl own_prog started (by kernel_rfl) Try.func7
    (OpenSpec.witness (enc := enc) (C := Try.checked) (s := (Rows.OpenSpec.upto Rows.modelNobodySpec)) (k := Rows.uptoSmall) rfl false ⟨#[], #[.agg #[.int .i64 0, .string ⟨#[]⟩, .string ⟨#[]⟩, .int .i64 0, .slice none 0 0, .slice none 0 0, .slice none 0 0], .slice none 0 0], []⟩ 8 (by kernel_rfl) (by kernel_rfl) (by kernel_rfl) (by kernel_rfl)
      (x := ([.agg [.lit (.int .i64 0), .agg [.lit (.string []), .lit (.string [])], .lit (.int .i64 0), .nil, .nil, .nil], .nil], [], [])) (by kernel_rfl) rfl (by kernel_rfl)) ?_
  intro W base args ds gs before hval hW _ hk _
  exact contract H enc W base args ds gs before hval hW hk

theorem proved : Rows.ModelNobodyUptoSaid :=
  OpenClaim.holds_of_cond 7 Try.f7 rfl rfl rfl rfl rfl rfl rfl ⟨rfl, rfl, rfl, rfl, rfl⟩ rfl rfl rfl rfl rfl (by kernel_rfl) Try.func7 (by kernel_rfl)
    (of_decide_eq_true (by kernel_rfl)) (by unfold Func.isWrapper; first | (rw [if_pos (by decide +kernel)]; kernel_rfl) | (rw [if_neg (by decide +kernel)]; exact ⟨rfl, rfl⟩))
    (fun os started H enc _ F => lifted os started H enc F)

end Go.Proofs.Ytlklmmpblgcaoaa.lawModelNobody
