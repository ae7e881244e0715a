/- What is refused, and what reads, changes nothing but how many entries there are: for every list of requests and every request. No condition. -/
import Derived.Test.YtlklmmpblgcaoaaMdAwake
import Derived.Test.YtlklmmpblgcaoaaMdLaw
import Derived.Test.YtlklmmpblgcaoaaHist
namespace Go.Proofs.Ytlklmmpblgcaoaa.lawModelRefused
open Go.ChangeShapes Go.WideShapes Go.ChangeAt Go.RowKit Go.Deep Go.ChangeMaps
set_option linter.unusedVariables false
set_option linter.unusedSimpArgs false

theorem refused_same (b : Bool) : b = true ∨ b = false := by cases b <;> simp
set_option maxRecDepth 100000 in
set_option maxHeartbeats 8000000 in
theorem walk (lv : Value) (l : List Rv) (q : Rq) (cv tv ev : Value) (w : World) (hl : RvIn w lv l) (hq : RqIn w q cv tv ev) : Calls Try.prog 4 #[lv, .agg #[.int .i64 q.kind, .string q.f, .string q.t, .int .i64 q.rev, cv, tv, ev]] w fun e w' => e = .returned (.bool true) ∧ Below w.heap.size w w' := by
  obtain ⟨s1, c1, rfl, la, ma⟩ := hl.form
  obtain ⟨s2, c2, rfl, l2, m2⟩ := LIn.form hq.c
  obtain ⟨s3, c3, rfl, l3, m3⟩ := LIn.form hq.t
  obtain ⟨s4, c4, rfl, l4, m4⟩ := LIn.form hq.e
  unfold maxLen at ma m2 m3 m4
  have HL := Lib.hid hl
  have HQ := Lib.hid hq
  clear hl hq
  obtain ⟨wb, hwb⟩ : ∃ wb, wb = w.alloc (rqB q (.slice s2 q.cmps.length c2) (.slice s3 q.thn.length c3) (.slice s4 q.els.length c4)) := ⟨_, rfl⟩
  have HWB : Hid (wb = w.alloc (.cells #[.int .i64 q.kind, .string q.f, .string q.t, .int .i64 q.rev, .slice s2 q.cmps.length c2, .slice s3 q.thn.length c3, .slice s4 q.els.length c4] 39)) := Lib.hid hwb
  have HF0 : Hid (Fr [] w wb) := Lib.hid (by rw [hwb]; exact (Fr.refl [] w).alloc _)
  have HB0 : Hid (wb.heap[w.heap.size]? = some (.cells #[.int .i64 q.kind, .string q.f, .string q.t, .int .i64 q.rev, .slice s2 q.cmps.length c2, .slice s3 q.thn.length c3, .slice s4 q.els.length c4] 39 (0, 0))) := Lib.hid (by rw [hwb]; exact new_block w _)
  have HLT : Hid (w.heap.size < wb.heap.size) := Lib.hid (lt_of_block HB0.out)
  clear hwb
  have HFEW : Hid (∀ X, Fr [] w X → Calls Try.prog 10 #[.slice s1 l.length c1] X fun e w' => e = .returned (.bool (fewB l)) ∧ Fr [] X w') := Lib.hid (fun X hX => mfew_any _ l X (HL.out.keep0 hX))
  go_enter Try.func4, Try.ntmps4
  go_upto_region 1 with fail
  rw [← HWB.out]
  go_wp2_with (first
    | (go_at_call 8; refine (mdl_awake _).mono ?_; rintro e w1 ⟨rfl, h1⟩; have HF := Lib.hid (HF0.out.trans h1 (by simp)); have HB := Lib.hid (h1.keep HB0.out (by simp)); clear h1)
    | (go_at_call 10; refine (HFEW.out _ HF.out).mono ?_; rintro e w3 ⟨rfl, h1⟩; replace HF := Lib.hid (HF.out.trans h1 (by simp)); replace HB := Lib.hid (h1.keep HB.out (by simp)); clear h1; refine go_stop ?_))
  unfold Stop
  obtain ⟨d0, d1, d2, d3, d4, d5, d6, _⟩ := cells7 HB.out
  cases hb : fewB l
  · clear hb
    go_wp2_with fail
    go_ret
    exact ⟨rfl, HF.out.below (Nat.le_refl _) (by simp)⟩
  obtain ⟨t4, u4⟩ | ⟨t4, u4⟩ := (gt8 q.cmps.length).symm
  · clear u4 hb
    go_wp2_with fail
    go_ret
    exact ⟨rfl, HF.out.below (Nat.le_refl _) (by simp)⟩
  obtain ⟨t5, u5⟩ | ⟨t5, u5⟩ := (gt8 q.thn.length).symm
  · clear u5 u4 hb
    go_wp2_with fail
    go_ret
    exact ⟨rfl, HF.out.below (Nat.le_refl _) (by simp)⟩
  obtain ⟨t6, u6⟩ | ⟨t6, u6⟩ := (gt8 q.els.length).symm
  · clear u6 u5 u4 hb
    go_wp2_with fail
    go_ret
    exact ⟨rfl, HF.out.below (Nat.le_refl _) (by simp)⟩
  have H8 : Hid (q.cmps.length ≤ 8 ∧ q.thn.length ≤ 8 ∧ q.els.length ≤ 8) := Lib.hid ⟨by simpa using u4, by simpa using u5, by simpa using u6⟩
  have HFB := Lib.hid hb
  clear u4 u5 u6 hb
  go_wp2_with (go_at_call 14; refine (mran_any _ l _ _ HL.out HF.out HFB.out).mono ?_; rintro e w4 ⟨p, S, rfl, h1, h2, h3⟩; refine go_stop ?_)
  unfold Stop
  have hsz := HF.out.size
  have HS := Lib.hid h1
  have HG : Hid (∀ k ∈ S, w.heap.size < k) := Lib.hid (fun k hk => by
    have := h3 k hk; have := HF.out.size; have := HLT.out; have := lt_of_block HB.out; omega)
  replace HF := Lib.hid (HF.out.trans h2 (by simp))
  replace HB := Lib.hid (h2.keep HB.out (by simp))
  have HOK := Lib.hid (runV_ok l l.length)
  obtain ⟨M, hM⟩ : ∃ M, M = runV l := ⟨_, rfl⟩
  rw [← hM] at HS
  rw [List.take_length, ← hM] at HOK
  have hn60 := (few_small HFB.out).1
  clear h1 h2 h3 hM d0 d1 d2 d3 d4 d5 d6 t4 t5 t6 hsz
  go_wp2_with (go_at_call 13; refine (mdl_head HS.out).mono ?_; rintro e w5 ⟨rfl, h1⟩; refine go_stop ?_)
  unfold Stop
  have hal := h1.trans ((Fr.refl [] w5).alloc (.cells #[.int .i64 M.seq, .int .i64 M.H.rows.length, .int .i64 M.H.hor] 28)) (by simp)
  have HW := Lib.hid (new_block w5 (.cells #[.int .i64 M.seq, .int .i64 M.H.rows.length, .int .i64 M.H.hor] 28))
  have HWL : Hid (w.heap.size < w5.heap.size) := Lib.hid (by have := lt_of_block (h1.keep HB.out (by simp)); exact this)
  have HWN : Hid (w5.heap.size ∉ S) := Lib.hid (fun hm => by have := (HS.out.keep h1 (by simp)).lt _ hm; omega)
  replace HF := Lib.hid (HF.out.trans hal (by simp))
  replace HB := Lib.hid (hal.keep HB.out (by simp))
  replace HS := Lib.hid (HS.out.keep hal (by simp))
  clear h1 hal
  go_wp2_with (go_at_call 15; refine (mdl_hist (n := l.length) HS.out HOK.out (by omega)).mono ?_; rintro e w6 ⟨pa, Sa, rfl, h1, h2, h3⟩; refine go_stop ?_)
  unfold Stop
  have HA := Lib.hid h1
  have HAN : Hid (∀ k ∈ Sa, k ∉ S) := Lib.hid (fun k hk hm => by have := h3 k hk; have := HS.out.lt k hm; omega)
  have HAW : Hid (w5.heap.size ∉ Sa) := Lib.hid (fun hm => by have := h3 _ hm; have := lt_of_block HW.out; omega)
  have HAB : Hid (∀ k ∈ Sa, w.heap.size < k) := Lib.hid (fun k hk => by have := h3 k hk; have := lt_of_block HW.out; have := HWL.out; omega)
  replace HF := Lib.hid (HF.out.trans h2 (by simp))
  replace HB := Lib.hid (h2.keep HB.out (by simp))
  replace HS := Lib.hid (HS.out.keep h2 (by simp))
  replace HW := Lib.hid (h2.keep HW.out (by simp))
  clear h1 h2 h3
  obtain ⟨d0, d1, d2, d3, d4, d5, d6, _⟩ := cells7 HB.out
  have HRQ : Hid (RqFar S w6 q (.slice s2 q.cmps.length c2) (.slice s3 q.thn.length c3) (.slice s4 q.els.length c4)) := Lib.hid (RqFar.of_old HQ.out (fun k hk => Nat.le_of_lt (HG.out k hk)) HF.out)
  go_wp2_with (go_at_call 11; refine (mdl_serve (n := l.length) q _ _ _ HS.out HOK.out (by omega) HRQ.out H8.out.1 H8.out.2.1 H8.out.2.2).mono ?_; rintro e w7 ⟨v7, S7, rfl, h1, h2, h3, h4, h5⟩; refine go_stop ?_)
  unfold Stop
  obtain ⟨s7, c7, rfl, l7, m7⟩ := h2.form
  unfold maxLen at m7
  have HTL := Lib.hid h2.lin
  have HRF := Lib.hid (next_refused (M := M) (q := q))
  have HQT := Lib.hid (err_quiet (M := M) (q := q))
  have HOK2 := Lib.hid (HOK.out.next q)
  have HER : Hid (M.err q = 0 ∨ M.err q ≠ 0) := Lib.hid (by omega)
  obtain ⟨M', hM'⟩ : ∃ M', M' = M.next q := ⟨_, rfl⟩
  rw [← hM'] at h1 HRF HOK2 ⊢
  clear hM'
  generalize M.err q = er at HRF HQT HER ⊢
  generalize M.ok q = okk at HQT ⊢
  generalize M.tell q = tl at HQT HTL l7 ⊢
  have hal : Fr [] w7 (w7.alloc (.cells #[.int .i64 M'.seq, .int .i64 M'.H.rows.length, .int .i64 M'.H.hor, .int .i64 er, .bool okk, .slice s7 tl.length c7] 32)) := (Fr.refl [] w7).alloc _
  have HR := Lib.hid (new_block w7 (.cells #[.int .i64 M'.seq, .int .i64 M'.H.rows.length, .int .i64 M'.H.hor, .int .i64 er, .bool okk, .slice s7 tl.length c7] 32))
  replace HF := Lib.hid ((HF.out.trans h4 (fun k hk => Or.inr (Nat.le_of_lt (HG.out k hk)))).trans hal (by simp))
  replace HB := Lib.hid (hal.keep (h4.keep HB.out (fun hm => by have := HG.out _ hm; omega)) (by simp))
  replace HW := Lib.hid (hal.keep (h4.keep HW.out HWN.out) (by simp))
  replace HA := Lib.hid ((HA.out.keep h4 HAN.out).keep hal (by simp))
  replace HS := Lib.hid (h1.keep hal (by simp))
  clear h1 h2 h3 h4 h5 d0 d1 d2 d3 d4 d5 d6 hal HAN HWN
  go_wp2_with (go_at_call 15; refine (mdl_hist (n := l.length + 1) HS.out HOK2.out (by omega)).mono ?_; rintro e w8 ⟨pb, Sb, rfl, h1, h2, h3⟩; refine go_stop ?_)
  unfold Stop
  have HBB := Lib.hid h1
  replace HF := Lib.hid (HF.out.trans h2 (by simp))
  replace HB := Lib.hid (h2.keep HB.out (by simp))
  replace HW := Lib.hid (h2.keep HW.out (by simp))
  replace HR := Lib.hid (h2.keep HR.out (by simp))
  replace HA := Lib.hid (HA.out.keep h2 (by simp))
  clear h1 h2 h3 HS
  go_wp2_with (first
    | (go_at_call 17; refine (hist_rev HA.out).mono ?_; rintro e wn ⟨rfl, rfl⟩)
    | (go_at_call 16; refine (hist_at (n := l.length) _ _ _ HA.out HOK.out.hok (by omega)).mono ?_; rintro e w9 ⟨v9, rfl, h1, _, h3⟩; refine go_stop ?_))
  unfold Stop
  obtain ⟨s9, c9, rfl, _, _⟩ := h1.form
  have HX := Lib.hid h1.lin
  replace HF := Lib.hid (HF.out.trans h3 (by simp))
  replace HB := Lib.hid (h3.keep HB.out (by simp))
  replace HW := Lib.hid (h3.keep HW.out (by simp))
  replace HR := Lib.hid (h3.keep HR.out (by simp))
  replace HA := Lib.hid (HA.out.keep h3 (by simp))
  replace HBB := Lib.hid (HBB.out.keep h3 (by simp))
  clear h1 h3
  go_wp2_with (first
    | (go_at_call 17; refine (hist_rev HA.out).mono ?_; rintro e wn ⟨rfl, rfl⟩)
    | (go_at_call 16; refine (hist_at (n := l.length + 1) _ _ _ HBB.out HOK2.out.hok (by omega)).mono ?_; rintro e w10 ⟨v10, rfl, h1, _, h3⟩; refine go_stop ?_))
  unfold Stop
  obtain ⟨s10, c10, rfl, _, _⟩ := h1.form
  have HY := Lib.hid h1.lin
  replace HX := Lib.hid (LIn.keep0 HX.out h3)
  replace HF := Lib.hid (HF.out.trans h3 (by simp))
  replace HB := Lib.hid (h3.keep HB.out (by simp))
  replace HW := Lib.hid (h3.keep HW.out (by simp))
  replace HR := Lib.hid (h3.keep HR.out (by simp))
  replace HA := Lib.hid (HA.out.keep h3 (by simp))
  replace HBB := Lib.hid (HBB.out.keep h3 (by simp))
  clear h1 h3
  obtain ⟨d0, d1, d2, d3, d4, d5, d6, _⟩ := cells7 HB.out
  obtain ⟨r0, r1, r2, r3, r4, r5, _⟩ := cells6 HR.out
  obtain ⟨y0, y1, y2, _⟩ := cells3 HW.out
  rcases HER.out with rfl | her
  · by_cases hk : q.kind = 2
    · have tk : (q.kind != 2) = false := by simp [hk]
      have hE := HRF.out (Or.inr hk)
      clear hk
      rw [hE] at HY HBB r1 r2
      have hsame : sameB kvB (M.H.atL (M.H.rows.length : Int) ⟨#[]⟩ ⟨#[]⟩) (M.H.atL (M.H.rows.length : Int) ⟨#[]⟩ ⟨#[]⟩) = true := (sameB_eq kvB_eq).2 rfl
      go_wp2_with (go_at_call 18; refine (rkvs_any _ _ _ _ _ HX.out HY.out).mono ?_; rintro e w11 ⟨rfl, h1⟩; rw [hsame]; refine go_stop ?_)
      unfold Stop
      replace HF := Lib.hid (HF.out.trans h1 (by simp))
      replace HA := Lib.hid (HA.out.keep h1 (by simp))
      replace HBB := Lib.hid (HBB.out.keep h1 (by simp))
      obtain ⟨r0, r1, r2, r3, r4, r5, _⟩ := cells6 (h1.keep HR.out (by simp))
      obtain ⟨y0, y1, y2, _⟩ := cells3 (h1.keep HW.out (by simp))
      rw [hE] at r1 r2
      clear h1 hsame
      go_wp2_with (go_at_call 17; refine (hist_rev HA.out).mono ?_; rintro e wn ⟨rfl, rfl⟩; refine go_stop ?_)
      unfold Stop
      go_wp2_with (go_at_call 17; refine (hist_rev HBB.out).mono ?_; rintro e wn ⟨rfl, rfl⟩; refine go_stop ?_)
      unfold Stop
      go_wp2_with (go_at_call 19; refine (hist_hor HA.out).mono ?_; rintro e wn ⟨rfl, rfl⟩; refine go_stop ?_)
      unfold Stop
      go_wp2_with (go_at_call 19; refine (hist_hor HBB.out).mono ?_; rintro e wn ⟨rfl, rfl⟩; refine go_stop ?_)
      unfold Stop
      go_wp2_with fail
      go_ret
      exact ⟨rfl, HF.out.below (Nat.le_refl _) (by simp)⟩
    · have tk : (q.kind != 2) = true := by simp [hk]
      clear hk
      go_wp2_with fail
      go_ret
      exact ⟨rfl, HF.out.below (Nat.le_refl _) (by simp)⟩
  · obtain ⟨h1, h2⟩ := HQT.out her
    subst h1 h2
    have hE := HRF.out (Or.inl her)
    rw [hE] at HY HBB r1 r2
    have hsame : sameB kvB (M.H.atL (M.H.rows.length : Int) ⟨#[]⟩ ⟨#[]⟩) (M.H.atL (M.H.rows.length : Int) ⟨#[]⟩ ⟨#[]⟩) = true := (sameB_eq kvB_eq).2 rfl
    go_wp2_with (go_at_call 18; refine (rkvs_any _ _ _ _ _ HX.out HY.out).mono ?_; rintro e w11 ⟨rfl, h1⟩; rw [hsame]; refine go_stop ?_)
    unfold Stop
    replace HF := Lib.hid (HF.out.trans h1 (by simp))
    replace HA := Lib.hid (HA.out.keep h1 (by simp))
    replace HBB := Lib.hid (HBB.out.keep h1 (by simp))
    obtain ⟨r0, r1, r2, r3, r4, r5, _⟩ := cells6 (h1.keep HR.out (by simp))
    obtain ⟨y0, y1, y2, _⟩ := cells3 (h1.keep HW.out (by simp))
    rw [hE] at r1 r2
    clear h1 hsame
    go_wp2_with (go_at_call 17; refine (hist_rev HA.out).mono ?_; rintro e wn ⟨rfl, rfl⟩; refine go_stop ?_)
    unfold Stop
    go_wp2_with (go_at_call 17; refine (hist_rev HBB.out).mono ?_; rintro e wn ⟨rfl, rfl⟩; refine go_stop ?_)
    unfold Stop
    go_wp2_with (go_at_call 19; refine (hist_hor HA.out).mono ?_; rintro e wn ⟨rfl, rfl⟩; refine go_stop ?_)
    unfold Stop
    go_wp2_with (go_at_call 19; refine (hist_hor HBB.out).mono ?_; rintro e wn ⟨rfl, rfl⟩; refine go_stop ?_)
    unfold Stop
    go_wp2_with fail
    go_ret
    exact ⟨rfl, HF.out.below (Nat.le_refl _) (by simp)⟩

set_option maxRecDepth 100000 in
theorem contract (H : Type) (enc : TypeId × Value → H) (W : World) (base : Nat) (args : Array Value) (ds gs : List (DataW H)) (before : List MemPlace)
    (hval0 : ∀ (j : Nat) t v, Try.f4.params[j]? = some t → args[j]? = some v → Value.okWide Try.prog W .any base t v)
    (hW : DataW.Whole enc Try.prog Try.f4.params.toList Rows.modelRefusedSpec.vars false W args.toList ds gs before) :
    Calls Try.prog 4 args W fun e W' => ∃ v, e = .returned v ∧ Rows.modelRefusedSpec.post enc Try.prog Try.f4 false true false false W args v W' := by
  have hval : ∀ (j : Nat) t v, Try.f4.params[j]? = some t → args[j]? = some v → Value.okWide Try.prog W .any base t v := hval0
  have hW' := hW
  obtain ⟨p, q, hA0, hV, rfl, hfz, hnd⟩ := hW
  have hA : DataW.TrodAll enc Try.prog W 0 (fun _ => true) true Try.f4.params.toList args.toList ds p := hA0
  rw [Try.params4] at hA hval
  obtain ⟨v0, vs0, d0, ds0, p0, q0, hargs, rfl, rfl, h0, r0⟩ := trodAll_cons hA
  obtain ⟨v1, vs1, d1, ds1, p1, q1, rfl, rfl, rfl, h1, r1⟩ := trodAll_cons r0
  obtain ⟨rfl, rfl, rfl⟩ := trodAll_nil r1
  obtain rfl : args = #[v0, v1] := by cases args; simp_all
  obtain ⟨rfl, rfl⟩ := trodVars_none hV
  have k0 := h0
  have lt0 : ∀ x ∈ p0, x.block < W.heap.size := by obtain ⟨m, hm⟩ := k0; exact DataW.trod_lt m _ _ _ hm
  have k1 := h1
  have lt1 : ∀ x ∈ p1, x.block < W.heap.size := by obtain ⟨m, hm⟩ := k1; exact DataW.trod_lt m _ _ _ hm
  obtain ⟨l, hl⟩ := open_reqs (hval 0 22 v0 rfl rfl) h0
  obtain ⟨q, cv, tv, ev, rfl, hq⟩ := open_req (hval 1 39 v1 rfl rfl) h1
  clear hA0 hval0 hval
  refine (walk v0 l q cv tv ev W hl hq).mono fun e W' ⟨he, bel⟩ => ?_
  subst he
  exact ⟨_, rfl, _, _, _, [], _, [], hW', trodAll_mk1 (shut_bool Try.underlying4 _), (trodAll_cons_mk (Below.trod laid_prog (by kernel_rfl) (of_decide_eq_true (by kernel_rfl)) k0 bel lt0) (trodAll_cons_mk (Below.trod laid_prog (by kernel_rfl) (of_decide_eq_true (by kernel_rfl)) k1 bel lt1) trodAll_mk0)), rfl, bel.frame _, fun h => by cases h⟩

set_option maxRecDepth 100000 in
theorem lifted (os : Os) (started : os.Started) (H : Type) (enc : TypeId × Value → H) :
    ReturnsInHanded {} Try.checked os 4 .any (Rows.modelRefusedSpec.pre6 enc Try.prog Try.f4 Rows.modelRefusedRow.domain false) (Rows.modelRefusedSpec.post enc Try.prog Try.f4 false true false false) := by
  refine returnsInHanded_of_change (C := Try.checked) own_prog started (by kernel_rfl) Try.func4
    (ChangeSpec.witness6 (enc := enc) (C := Try.checked) false ⟨#[], #[.slice none 0 0, .agg #[.int .i64 0, .string ⟨#[]⟩, .string ⟨#[]⟩, .int .i64 0, .slice none 0 0, .slice none 0 0, .slice none 0 0]], []⟩ 8 (by kernel_rfl) (by kernel_rfl) (by kernel_rfl) (by kernel_rfl)) ?_
  intro W base args ds gs before hval hW _ _
  exact contract H enc W base args ds gs before hval hW

theorem proved : Rows.ModelRefusedSaid :=
  OpenClaim.holds_of_wide 4 Try.f4 rfl rfl rfl rfl rfl rfl rfl ⟨rfl, rfl, rfl, rfl, rfl⟩ rfl rfl rfl rfl rfl (by kernel_rfl) Try.func4 (by kernel_rfl)
    (of_decide_eq_true (by kernel_rfl)) (by unfold Func.isWrapper; first | (rw [if_pos (by decide +kernel)]; kernel_rfl) | (rw [if_neg (by decide +kernel)]; exact ⟨rfl, rfl⟩))
    (fun os started H enc _ => lifted os started H enc)

end Go.Proofs.Ytlklmmpblgcaoaa.lawModelRefused
