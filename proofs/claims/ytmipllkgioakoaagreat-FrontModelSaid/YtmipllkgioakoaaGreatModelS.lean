/- PACKAGE model: what a request is answered, and Serve -/
import Derived.Test.YtmipllkgioakoaaGreatModel
namespace Go.Proofs.YtmipllkgioakoaaGreat
open Go.RowKit
set_option linter.unusedVariables false
set_option linter.unusedSimpArgs false

theorem six_sets (w : World) (b : Nat) (a0 a1 a2 a3 a4 a5 : Value) : Fr [b] w ((((((w.setCell ⟨b, 0, none⟩ a0).setCell ⟨b, 1, none⟩ a1).setCell ⟨b, 2, none⟩ a2).setCell ⟨b, 3, none⟩ a3).setCell ⟨b, 4, none⟩ a4).setCell ⟨b, 5, none⟩ a5) := ((((((Fr.refl [b] w).setCell (p := ⟨b, 0, none⟩) (Or.inl (by simp)) a0).setCell (p := ⟨b, 1, none⟩) (Or.inl (by simp)) a1).setCell (p := ⟨b, 2, none⟩) (Or.inl (by simp)) a2).setCell (p := ⟨b, 3, none⟩) (Or.inl (by simp)) a3).setCell (p := ⟨b, 4, none⟩) (Or.inl (by simp)) a4).setCell (p := ⟨b, 5, none⟩) (Or.inl (by simp)) a5
theorem nine_sets (w : World) (a b : Nat) (a0 a1 a2 c0 c1 c2 c3 c4 c5 : Value) : Fr [a, b] w (((((((((w.setCell ⟨a, 0, none⟩ a0).setCell ⟨a, 1, none⟩ a1).setCell ⟨a, 2, none⟩ a2).setCell ⟨b, 0, none⟩ c0).setCell ⟨b, 1, none⟩ c1).setCell ⟨b, 2, none⟩ c2).setCell ⟨b, 3, none⟩ c3).setCell ⟨b, 4, none⟩ c4).setCell ⟨b, 5, none⟩ c5) := ((((((((((Fr.refl [a, b] w).setCell (p := ⟨a, 0, none⟩) (Or.inl (by simp)) a0).setCell (p := ⟨a, 1, none⟩) (Or.inl (by simp)) a1).setCell (p := ⟨a, 2, none⟩) (Or.inl (by simp)) a2).setCell (p := ⟨b, 0, none⟩) (Or.inl (by simp)) c0).setCell (p := ⟨b, 1, none⟩) (Or.inl (by simp)) c1).setCell (p := ⟨b, 2, none⟩) (Or.inl (by simp)) c2).setCell (p := ⟨b, 3, none⟩) (Or.inl (by simp)) c3).setCell (p := ⟨b, 4, none⟩) (Or.inl (by simp)) c4).setCell (p := ⟨b, 5, none⟩) (Or.inl (by simp)) c5)
theorem bdE_chE (M : MA) (q : Rq) : bdE M.H (planL M.map q) = M.chE q := rfl
set_option maxRecDepth 100000 in
set_option maxHeartbeats 8000000 in
theorem mdl_answer20 {w : World} {p g : Nat} {S0 : List Nat} {M : MA} {n : Nat} (q : Rq) (cv tv ev : Value) (h : MdAtB w p g S0 M) (hk : MOk M n) (hn : n ≤ 1000) (hq : RqFar (p :: S0) w q cv tv ev) (b0 : q.cmps.length ≤ 20) (b1 : q.thn.length ≤ 20) (b2 : q.els.length ≤ 20) :
    Calls Tryz.prog 24 #[.pointer (some ⟨p, 0, none⟩), .agg #[.int .i64 q.kind, .string q.f, .string q.t, .int .i64 q.rev, cv, tv, ev]] w fun e w' =>
      ∃ s c S1, e = .returned (.agg #[.int .i64 0, .int .i64 0, .int .i64 0, .int .i64 (M.err q), .bool (M.ok q), .slice s (M.tell q).length c]) ∧ MdAtB w' p g S1 (M.next q) ∧ LFar (p :: S1) Kv.cells 3 w' (.slice s (M.tell q).length c) (M.tell q) ∧ (∀ k, (Value.slice s (M.tell q).length c).ownBlock = some k → w.heap.size ≤ k) ∧ Fr (p :: S0) w w' ∧ Grow (p :: S0) (p :: S1) w := by
  obtain ⟨s1, c1, rfl, la1, ma1⟩ := LIn.form hq.c.lin
  obtain ⟨s2, c2, rfl, la2, ma2⟩ := LIn.form hq.t.lin
  obtain ⟨s3, c3, rfl, la3, ma3⟩ := LIn.form hq.e.lin
  obtain ⟨wb, hwb⟩ : ∃ wb, wb = (w.alloc (.cells #[.int .i64 q.kind, .string q.f, .string q.t, .int .i64 q.rev, .slice s1 q.cmps.length c1, .slice s2 q.thn.length c2, .slice s3 q.els.length c3] 35)).alloc (.cells #[.int .i64 0, .int .i64 0, .int .i64 0, .int .i64 0, .bool false, .slice none 0 0] 41) := ⟨_, rfl⟩
  have HWB := Lib.hid hwb
  have HF : Hid (Fr [] w wb) := Lib.hid (by rw [hwb]; exact ((Fr.refl [] w).alloc _).alloc _)
  have HSZ : Hid (wb.heap.size = w.heap.size + 2) := Lib.hid (by rw [hwb]; simp)
  have HBQ : Hid (wb.heap[w.heap.size]? = some (.cells #[.int .i64 q.kind, .string q.f, .string q.t, .int .i64 q.rev, .slice s1 q.cmps.length c1, .slice s2 q.thn.length c2, .slice s3 q.els.length c3] 35 (0, 0))) := Lib.hid (by
    rw [hwb]; exact (((Fr.refl [] (w.alloc _)).alloc _).keep (new_block w _) (by simp)))
  have HB0 : Hid (wb.heap[w.heap.size + 1]? = some (.cells #[.int .i64 0, .int .i64 0, .int .i64 0, .int .i64 0, .bool false, .slice none 0 0] 41 (0, 0))) := Lib.hid (by
    rw [hwb]
    have h1 := new_block (w.alloc (.cells #[.int .i64 q.kind, .string q.f, .string q.t, .int .i64 q.rev, .slice s1 q.cmps.length c1, .slice s2 q.thn.length c2, .slice s3 q.els.length c3] 35)) (.cells #[.int .i64 0, .int .i64 0, .int .i64 0, .int .i64 0, .bool false, .slice none 0 0] 41)
    simp only [World.size_alloc] at h1
    exact h1)
  have HM := Lib.hid (h.keep HF.out (by simp) (by simp))
  have HLT : Hid (∀ k ∈ p :: S0, k < w.heap.size) := Lib.hid (fun k hk => Md.lt (M := M) ⟨g, S0, rfl, h⟩ k hk)
  have HOK := Lib.hid hk
  have HQ := Lib.hid hq
  have HRQ : Hid (∀ X, Fr [] w X → RqIn X q (.slice s1 q.cmps.length c1) (.slice s2 q.thn.length c2) (.slice s3 q.els.length c3)) := Lib.hid fun X hX => ⟨LIn.keep0 hq.c.lin hX, LIn.keep0 hq.t.lin hX, LIn.keep0 hq.e.lin hX, hq.wf⟩
  have hplt := lt_of_block h.blk
  clear hwb h hk hq
  have HNC := Lib.hid (next_cases M q)
  go_enter Tryz.func24, Tryz.ntmps24
  go_wp2_with (go_at_call 8; rw [← HWB.out]; refine (txn_may q _ _ _ _ (HRQ.out _ HF.out)).mono ?_; rintro e w5 ⟨rfl, h1⟩; refine go_stop ?_)
  unfold Stop
  have HF5 := Lib.hid (HF.out.trans h1 (by simp))
  have HM5 := Lib.hid (HM.out.keep h1 (by simp) (by simp))
  have HQ5 : Hid (∀ X, Fr [] w5 X → RqFar (p :: S0) X q (.slice s1 q.cmps.length c1) (.slice s2 q.thn.length c2) (.slice s3 q.els.length c3)) := Lib.hid fun X hX => ⟨HQ.out.c.keep0 (HF5.out.trans hX (by simp)), HQ.out.t.keep0 (HF5.out.trans hX (by simp)), HQ.out.e.keep0 (HF5.out.trans hX (by simp)), HQ.out.wf⟩
  have HBQ5 := Lib.hid (h1.keep HBQ.out (by simp))
  have HB05 := Lib.hid (h1.keep HB0.out (by simp))
  have HS5 : Hid (w.heap.size + 2 ≤ w5.heap.size) := Lib.hid (by have := h1.size; have := HSZ.out; omega)
  clear h1
  have HPN : Hid (∀ k ∈ p :: S0, k ≠ w.heap.size ∧ k ≠ w.heap.size + 1) := Lib.hid (fun k hk => by have := HLT.out k hk; omega)
  obtain ⟨bq, hbq⟩ : ∃ bq, w.heap.size = bq := ⟨_, rfl⟩
  rw [hbq] at HBQ5 HB05 HPN ⊢
  have HBQE := Lib.hid hbq
  have hplt2 : p < bq := by omega
  clear hbq hplt HBQ HB0 HM HSZ HF HWB HQ
  have m1 : ¬ bq = p := by omega
  have m2 : ¬ p = bq := by omega
  have m3 : ¬ bq + 1 = p := by omega
  have m4 : ¬ p = bq + 1 := by omega
  have m7 : ¬ bq = bq + 1 := by omega
  have m11 : ¬ bq + 1 = bq := by omega
  obtain ⟨d0, d1, d2, d3, d4, d5, d6, _⟩ := cells7 HBQ5.out
  obtain ⟨y0, y1, y2, y3, y4, y5, yz⟩ := cells6 HB05.out
  obtain ⟨x0, x1, xz⟩ := cells2 HM5.out.blk
  rcases HNC.out with ⟨hm, he, hx⟩ | ⟨hm, hkd, he, hx⟩ | ⟨hm, hkd, he, hx⟩ | ⟨hm, hkd, he, hx⟩
  · have hE : mayE q = 1 := by unfold mayE; rw [hm]; rfl
    rw [hE]
    have HX := Lib.hid hx
    have HE := Lib.hid he
    clear hm hx he hE HNC
    go_wp2_with fail
    refine bodyPost_ret (v := .agg #[.int .i64 0, .int .i64 0, .int .i64 0, .int .i64 1, .bool false, .slice none 0 0]) (by simp [results, Tryz.results24, go_sem, *]) rfl ?_
    obtain ⟨g1, g2⟩ := err_quiet (M := M) (q := q) (by rw [HE.out]; decide)
    have hnn := six_sets w5 (bq + 1) (.int .i64 0) (.int .i64 0) (.int .i64 0) (.int .i64 1) (.bool false) (.slice none 0 0)
    refine ⟨none, 0, S0, by rw [HE.out, g1, g2]; rfl, ?_, by rw [g2]; exact LFar.nil _ _, fun k hk => by simp [Value.ownBlock] at hk, ?_, Grow.refl _ _⟩
    · rw [HX.out]; exact HM5.out.keep hnn (by simp; omega) (fun k hk => by have := HPN.out k (List.mem_cons_of_mem _ hk); simp; omega)
    · exact (HF5.out.mono (by simp)).trans hnn (fun k hk => Or.inr (by have := HBQE.out; simp at hk; omega))
  · have hE : mayE q = 0 := by unfold mayE; rw [hm]; rfl
    rw [hE]
    have HX := Lib.hid hx
    have HE := Lib.hid he
    have HOKQ : Hid (M.ok q = false) := Lib.hid (by unfold MA.ok; rw [decide_eq_false (by rw [hkd]; intro hc; exact absurd hc.2.1 (by decide))]; rfl)
    have HTL : Hid (M.tell q = M.H.atL (M.at_ q) q.f q.t) := Lib.hid (by unfold MA.tell; rw [if_pos ⟨hm, hkd⟩])
    have t1 : (q.kind == 2) = true := by rw [hkd]; decide
    have HA : Hid (∀ X, Fr [] w5 X → Calls Tryz.prog 45 #[.agg #[.pointer (some ⟨g, 0, none⟩)], .int .i64 q.rev, .agg #[.string q.f, .string q.t]] X fun e w' => ∃ s c, e = .returned (.tuple #[.slice s (M.tell q).length c, .int .i64 (M.err q)]) ∧ LFar (p :: S0) Kv.cells 3 w' (.slice s (M.tell q).length c) (M.tell q) ∧ (∀ k, (Value.slice s (M.tell q).length c).ownBlock = some k → bq + 2 ≤ k) ∧ Fr [] w5 w') := Lib.hid fun X hX => by
      refine (bnd_read q.rev q.f q.t (HM5.out.hs.keep hX (by simp)) HOK.out.hok hn).mono ?_
      rintro e w' ⟨v, rfl, h1, h2, h3⟩
      rw [show M.H.atE (atR M.H q.rev) = M.err q from HE.out.symm]
      rw [show M.H.atL (atR M.H q.rev) q.f q.t = M.tell q from HTL.out.symm] at h1
      obtain ⟨s, c, rfl, _⟩ := h1.form
      have hs := hX.size
      have hs5 := HS5.out
      have hbe := HBQE.out
      exact ⟨s, c, rfl, LFar.of_new (w := w) h1.lin (fun k hk => by have := h2 k hk; omega) HLT.out, fun k hk => by have := h2 k hk; omega, hX.trans h3 (by simp)⟩
    clear hm hx he hE HNC hkd
    go_upto_region 5 with fail
    go_region_held3 (fun w' => w'.cell? ⟨p, 0, none⟩ = some (.pointer (some ⟨g, 0, none⟩)) ∧ w'.cell? ⟨bq, 1, none⟩ = some (.string q.f) ∧ w'.cell? ⟨bq, 2, none⟩ = some (.string q.t) ∧ w'.cell? ⟨bq, 3, none⟩ = some (.int .i64 q.rev)) (first | go_keep | (exact ⟨by assumption, by assumption, by assumption, by assumption⟩)) (first
      | (go_at_call 45; refine (HA.out _ (by first | exact (Fr.refl _ _).drew | exact Fr.refl _ _)).mono ?_; rintro e w9 ⟨s9, c9, rfl, h1, h2, h3⟩; have H1 := Lib.hid h1; have H2 := Lib.hid h2; have H3 := Lib.hid h3; have e0 := h3.cell x0 (by simp); have e1 := h3.cell d1 (by simp); have e2 := h3.cell d2 (by simp); have e3 := h3.cell d3 (by simp); have HB09 := Lib.hid (h3.keep HB05.out (by simp)); obtain ⟨z0, z1, z2, z3, z4, z5, zz⟩ := cells6 HB09.out; clear h1 h2 h3 x0 d1 d2 d3))
    go_wp2_with fail
    refine bodyPost_ret (v := .agg #[.int .i64 0, .int .i64 0, .int .i64 0, .int .i64 (M.err q), .bool false, .slice s9 (M.tell q).length c9]) (by simp [results, Tryz.results24, go_sem, *]) rfl ?_
    have hnn := six_sets w9 (bq + 1) (.int .i64 0) (.int .i64 0) (.int .i64 0) (.int .i64 (M.err q)) (.bool false) (.slice s9 (M.tell q).length c9)
    refine ⟨s9, c9, S0, by rw [HOKQ.out], ?_, ?_, fun k hk => by have := H2.out k hk; have := HBQE.out; omega, ?_, Grow.refl _ _⟩
    · rw [HX.out]; exact (HM5.out.keep H3.out (by simp) (by simp)).keep hnn (by simp; omega) (fun k hk => by have := HPN.out k (List.mem_cons_of_mem _ hk); simp; omega)
    · exact ⟨(LFar.keep (S := [bq + 1]) ⟨H1.out.lin, fun _ k hk hm => by have := H2.out k hk; simp at hm; omega⟩ hnn).lin, H1.out.2⟩
    · exact ((HF5.out.trans H3.out (by simp)).mono (by simp)).trans hnn (fun k hk => Or.inr (by have := HBQE.out; simp at hk; omega))
  · have hE : mayE q = 0 := by unfold mayE; rw [hm]; rfl
    rw [hE]
    have HX := Lib.hid hx
    have HE := Lib.hid he
    have HOKQ : Hid (M.ok q = false) := Lib.hid (by unfold MA.ok; rw [decide_eq_false (by rw [hkd]; intro hc; exact absurd hc.2.1 (by decide))]; rfl)
    have HTL : Hid (M.tell q = []) := Lib.hid (by unfold MA.tell; rw [if_neg (by rw [hkd]; intro hc; exact absurd hc.2 (by decide))])
    have t1 : (q.kind == 2) = false := by rw [hkd]; decide
    have t2 : (q.kind == 3) = true := by rw [hkd]; decide
    have sm1 : IntKind.i64.wrap ((M.seq : Int) + 1) = (M.seq : Int) + 1 := IntWalk.i64_in _ (by have := HOK.out.seq; omega)
    clear hm hx he hE HNC hkd
    go_upto_region 9 with fail
    have hset : Fr [p] w5 (w5.setCell ⟨p, 1, none⟩ (.int .i64 ((M.seq : Int) + 1))) := (Fr.refl _ w5).setCell (p := ⟨p, 1, none⟩) (Or.inl (by simp)) _
    have hpb := set_block HM5.out.blk 1 (.int .i64 ((M.seq : Int) + 1))
    obtain ⟨w6, hw6⟩ : ∃ w6, w6 = w5.setCell ⟨p, 1, none⟩ (.int .i64 ((M.seq : Int) + 1)) := ⟨_, rfl⟩
    rw [← hw6] at hset hpb ⊢
    have HM6 : Hid (MdAtB w6 p g S0 ⟨M.seq + 1, M.H⟩) := Lib.hid ⟨by simpa using hpb, HM5.out.pn, HM5.out.hs.keep hset (fun k hk hm => by simp at hm; subst hm; exact HM5.out.pn hk)⟩
    have HB06 := Lib.hid (hset.keep HB05.out (by simp; omega))
    have HBQ6 := Lib.hid (hset.keep HBQ5.out (by simp; omega))
    have HF6 : Hid (Fr (p :: S0) w w6) := Lib.hid ((HF5.out.mono (by simp)).trans hset (by simp))
    have HS6 : Hid (bq + 2 ≤ w6.heap.size) := Lib.hid (by have := hset.size; have := HS5.out; have := HBQE.out; omega)
    have HQ6 : Hid (∀ X, Fr [] w6 X → RqFar (p :: S0) X q (.slice s1 q.cmps.length c1) (.slice s2 q.thn.length c2) (.slice s3 q.els.length c3)) := Lib.hid fun X hX => by
      have h5 := HQ5.out w5 (Fr.refl _ _)
      exact ⟨(h5.c.keep (hset.mono (by simp))).keep0 hX, (h5.t.keep (hset.mono (by simp))).keep0 hX, (h5.e.keep (hset.mono (by simp))).keep0 hX, h5.wf⟩
    clear hw6 hset hpb x0 x1 d0 d1 d2 d3 d4 d5 d6 y0 y1 y2 y3 y4 y5
    obtain ⟨x0, x1, xz⟩ := cells2 HM6.out.blk
    obtain ⟨d0, d1, d2, d3, d4, d5, d6, _⟩ := cells7 HBQ6.out
    obtain ⟨y0, y1, y2, y3, y4, y5, yz⟩ := cells6 HB06.out
    have HC : Hid (∀ X, Fr [] w6 X → Calls Tryz.prog 46 #[.agg #[.pointer (some ⟨g, 0, none⟩)], .int .i64 q.rev] X fun e w' => ∃ S', e = .returned (.int .i64 (M.err q)) ∧ Hs w' g S' (M.H.com q.rev) ∧ Fr S0 w6 w' ∧ Grow S0 S' w6) := Lib.hid fun X hX => by
      rw [HE.out]
      refine (bnd_compact q.rev (HM6.out.hs.keep hX (by simp)) HOK.out.hok hn).mono ?_
      rintro e w' ⟨S', rfl, h1, h2, h3⟩
      exact ⟨S', rfl, h1, (hX.mono (by simp)).trans h2 (fun k hk => Or.inl hk), fun k hk => (h3 k hk).imp id (fun hl => Nat.le_trans hX.size hl)⟩
    go_region_held3 (fun w' => w'.cell? ⟨p, 0, none⟩ = some (.pointer (some ⟨g, 0, none⟩)) ∧ w'.cell? ⟨bq, 3, none⟩ = some (.int .i64 q.rev)) (first | go_keep | (exact ⟨by assumption, by assumption⟩)) (first
      | (go_at_call 46; refine (HC.out _ (by first | exact (Fr.refl _ _).drew | exact Fr.refl _ _)).mono ?_; rintro e w9 ⟨S1, rfl, h1, h3, h5⟩; have H1 := Lib.hid h1; have H3 := Lib.hid h3; have H5 := Lib.hid h5; have HB09 := Lib.hid (H3.out.keep HB06.out (fun hm => by have := HPN.out _ (List.mem_cons_of_mem _ hm); omega)); have e0 := H3.out.cell x0 (fun hm => HM5.out.pn hm); have e1 := H3.out.cell d3 (fun hm => by have := HPN.out bq (List.mem_cons_of_mem _ hm); omega); obtain ⟨z0, z1, z2, z3, z4, z5, zz⟩ := cells6 HB09.out; clear h1 h3 h5 x0 d3))
    go_wp2_with fail
    refine bodyPost_ret (v := .agg #[.int .i64 0, .int .i64 0, .int .i64 0, .int .i64 (M.err q), .bool false, .slice none 0 0]) (by simp [results, Tryz.results24, go_sem, *]) rfl ?_
    have hnn := six_sets w9 (bq + 1) (.int .i64 0) (.int .i64 0) (.int .i64 0) (.int .i64 (M.err q)) (.bool false) (.slice none 0 0)
    have hpn1 : ∀ k ∈ p :: S1, k ≠ bq + 1 := fun k hk => by
      have h6 := HS6.out
      rcases List.mem_cons.1 hk with rfl | hk
      · exact (HPN.out k (by simp)).2
      · rcases H5.out k hk with h1 | h1
        · exact (HPN.out k (List.mem_cons_of_mem _ h1)).2
        · omega
    refine ⟨none, 0, S1, by rw [HOKQ.out, HTL.out]; rfl, ?_, by rw [HTL.out]; exact LFar.nil _ _, fun k hk => by simp [Value.ownBlock] at hk, ?_, ?_⟩
    · rw [HX.out]
      have h9 : MdAtB w9 p g S1 ⟨M.seq + 1, M.H.com q.rev⟩ := ⟨H3.out.keep HM6.out.blk HM6.out.pn, fun hm => (H5.out p hm).elim HM6.out.pn (fun hl => by have := HS6.out; omega), H1.out⟩
      exact h9.keep hnn (by simp; omega) (fun k hk => by have := hpn1 k (List.mem_cons_of_mem _ hk); simp; omega)
    · exact (HF6.out.trans H3.out (fun k hk => Or.inl (List.mem_cons_of_mem _ hk))).trans hnn (fun k hk => Or.inr (by have := HBQE.out; simp at hk; omega))
    · intro k hk
      rcases List.mem_cons.1 hk with rfl | hk
      · exact Or.inl (by simp)
      · rcases H5.out k hk with h1 | h1
        · exact Or.inl (List.mem_cons_of_mem _ h1)
        · right; have := HBQE.out; have := HS6.out; omega
  · have hE : mayE q = 0 := by unfold mayE; rw [hm]; rfl
    rw [hE]
    have HX := Lib.hid hx
    have HE := Lib.hid he
    have HMQ := Lib.hid hm
    have HKD := Lib.hid hkd
    have HTL : Hid (M.tell q = []) := Lib.hid (by unfold MA.tell; rw [if_neg (by rw [hkd]; intro hc; exact absurd hc.2 (by decide))])
    have t1 : (q.kind == 2) = false := by rw [hkd]; decide
    have t2 : (q.kind == 3) = false := by rw [hkd]; decide
    have sm1 : IntKind.i64.wrap ((M.seq : Int) + 1) = (M.seq : Int) + 1 := IntWalk.i64_in _ (by have := HOK.out.seq; omega)
    have hlim : q.cmps.length ≤ 4 ∧ q.thn.length ≤ 4 ∧ q.els.length ≤ 4 := by
      unfold mayQ at hm
      rw [if_pos hkd] at hm
      simp only [Bool.and_eq_true, opsB, cmsB, decide_eq_true_eq] at hm
      exact ⟨hm.1.1.2, hm.1.2.2, hm.2.2⟩
    have HLIM := Lib.hid hlim
    have HP4 : Hid ((planL M.map q).length ≤ 4) := Lib.hid (plan_nodup (m := M.map) hm hkd).2
    have HML : Hid (M.map.length ≤ many) := Lib.hid (by
      have h1 := mapN_len M.H.rows M.H.rows.length
      have h2 := HOK.out.hok.flat
      unfold MA.map many; omega)
    clear hm hx he hE HNC hkd hlim
    go_upto_region 10 with fail
    have hset : Fr [p] w5 (w5.setCell ⟨p, 1, none⟩ (.int .i64 ((M.seq : Int) + 1))) := (Fr.refl _ w5).setCell (p := ⟨p, 1, none⟩) (Or.inl (by simp)) _
    have hpb := set_block HM5.out.blk 1 (.int .i64 ((M.seq : Int) + 1))
    obtain ⟨w6, hw6⟩ : ∃ w6, w6 = w5.setCell ⟨p, 1, none⟩ (.int .i64 ((M.seq : Int) + 1)) := ⟨_, rfl⟩
    rw [← hw6] at hset hpb ⊢
    have HM6 : Hid (MdAtB w6 p g S0 ⟨M.seq + 1, M.H⟩) := Lib.hid ⟨by simpa using hpb, HM5.out.pn, HM5.out.hs.keep hset (fun k hk hm => by simp at hm; subst hm; exact HM5.out.pn hk)⟩
    have HB06 := Lib.hid (hset.keep HB05.out (by simp; omega))
    have HBQ6 := Lib.hid (hset.keep HBQ5.out (by simp; omega))
    have HF6 : Hid (Fr (p :: S0) w w6) := Lib.hid ((HF5.out.mono (by simp)).trans hset (by simp))
    have HS6 : Hid (bq + 2 ≤ w6.heap.size) := Lib.hid (by have := hset.size; have := HS5.out; have := HBQE.out; omega)
    have HQ6 : Hid (∀ X, Fr [] w6 X → RqFar (p :: S0) X q (.slice s1 q.cmps.length c1) (.slice s2 q.thn.length c2) (.slice s3 q.els.length c3)) := Lib.hid fun X hX => by
      have h5 := HQ5.out w5 (Fr.refl _ _)
      exact ⟨(h5.c.keep (hset.mono (by simp))).keep0 hX, (h5.t.keep (hset.mono (by simp))).keep0 hX, (h5.e.keep (hset.mono (by simp))).keep0 hX, h5.wf⟩
    clear hw6 hset hpb x0 x1 d0 d1 d2 d3 d4 d5 d6 y0 y1 y2 y3 y4 y5
    obtain ⟨x0, x1, xz⟩ := cells2 HM6.out.blk
    obtain ⟨d0, d1, d2, d3, d4, d5, d6, _⟩ := cells7 HBQ6.out
    obtain ⟨y0, y1, y2, y3, y4, y5, yz⟩ := cells6 HB06.out
    have HA : Hid (∀ X, Fr [] w6 X → Calls Tryz.prog 48 #[.agg #[.pointer (some ⟨g, 0, none⟩)]] X fun e w' => ∃ s c, e = .returned (.slice s M.map.length c) ∧ KvIn w' (.slice s M.map.length c) M.map ∧ Fr [] w6 w') := Lib.hid fun X hX => by
      refine (bnd_now (HM6.out.hs.keep hX (by simp)) HOK.out.hok hn).mono ?_
      rintro e w' ⟨s, c, rfl, h1, h3⟩
      exact ⟨s, c, rfl, h1, hX.trans h3 (by simp)⟩
    have HPL : Hid (∀ X mv, Fr [] w6 X → KvIn X mv M.map → Calls Tryz.prog 47 #[mv, .agg #[.int .i64 q.kind, .string q.f, .string q.t, .int .i64 q.rev, .slice s1 q.cmps.length c1, .slice s2 q.thn.length c2, .slice s3 q.els.length c3]] X fun e w' => ∃ s c, e = .returned (.tuple #[.bool (holdsC M.map q.cmps), .slice s (planL M.map q).length c]) ∧ LFar S0 Od.cells 3 w' (.slice s (planL M.map q).length c) (planL M.map q) ∧ Fr [] w6 w') := Lib.hid fun X mv hX hmv => by
      have hf := HQ6.out X hX
      refine (txn_plan mv M.map q _ _ _ X hmv (srt_mapN _ _) ⟨hf.c.lin, hf.t.lin, hf.e.lin, hf.wf⟩ HML.out (by have := HLIM.out; unfold many; omega) (by have := HLIM.out; unfold many; omega) (by have := HLIM.out; unfold many; omega)).mono ?_
      rintro e w' ⟨v, rfl, h1, h2, h3⟩
      obtain ⟨s, c, rfl, _⟩ := LIn.form h1
      have h4 := h2 S0 (fun k hk => Nat.lt_of_lt_of_le (HM6.out.hs.lt k hk) hX.size) ⟨hf.t.1, fun hl k hk hm => hf.t.2 hl k hk (List.mem_cons_of_mem _ hm)⟩ ⟨hf.e.1, fun hl k hk hm => hf.e.2 hl k hk (List.mem_cons_of_mem _ hm)⟩
      exact ⟨s, c, rfl, h4, hX.trans h3 (by simp)⟩
    go_region_held3 (fun w' => w'.cell? ⟨p, 0, none⟩ = some (.pointer (some ⟨g, 0, none⟩)) ∧ w'.cell? ⟨bq, 0, none⟩ = some (.int .i64 q.kind) ∧ w'.cell? ⟨bq, 1, none⟩ = some (.string q.f) ∧ w'.cell? ⟨bq, 2, none⟩ = some (.string q.t) ∧ w'.cell? ⟨bq, 3, none⟩ = some (.int .i64 q.rev) ∧ w'.cell? ⟨bq, 4, none⟩ = some (.slice s1 q.cmps.length c1) ∧ w'.cell? ⟨bq, 5, none⟩ = some (.slice s2 q.thn.length c2) ∧ w'.cell? ⟨bq, 6, none⟩ = some (.slice s3 q.els.length c3)) (first | go_keep | (exact ⟨by assumption, by assumption, by assumption, by assumption, by assumption, by assumption, by assumption, by assumption⟩)) (first
      | (go_at_call 48; refine (HA.out _ (by first | exact (Fr.refl _ _).drew | exact Fr.refl _ _)).mono ?_; rintro e w7 ⟨s7, c7, rfl, h1, h3⟩; have HKV := Lib.hid h1; have HF7 := Lib.hid h3; have e0 := h3.cell x0 (by simp); have a0 := h3.cell d0 (by simp); have a1 := h3.cell d1 (by simp); have a2 := h3.cell d2 (by simp); have a3 := h3.cell d3 (by simp); have a4 := h3.cell d4 (by simp); have a5 := h3.cell d5 (by simp); have a6 := h3.cell d6 (by simp); clear h1 h3 x0 d0 d1 d2 d3 d4 d5 d6)
      | (go_at_call 47; refine (HPL.out _ _ (by first | exact HF7.out.drew | exact HF7.out) (by first | exact HKV.out | exact LIn.keep0 HKV.out (Fr.refl [] _).drew)).mono ?_; rintro e w8 ⟨s8, c8, rfl, h1, h3⟩; have HOF := Lib.hid h1; have HF8 := Lib.hid h3; obtain ⟨x0, x1, xz⟩ := cells2 (h3.keep HM6.out.blk (by simp)); obtain ⟨d0, d1, d2, d3, d4, d5, d6, _⟩ := cells7 (h3.keep HBQ6.out (by simp)); clear h1 h3 e0 a0 a1 a2 a3 a4 a5 a6))
    have HCG := Lib.hid (bnd_change (n := n) (.slice s8 (planL M.map q).length c8) (planL M.map q) (HM6.out.hs.keep HF8.out (by simp)) HOK.out.hok hn HOF.out (by have := HP4.out; omega))
    have HPB := Lib.hid (HF8.out.keep HM6.out.blk (by simp))
    have HBS := Lib.hid (HF8.out.keep HB06.out (by simp))
    have HFW : Hid (Fr (p :: S0) w w8) := Lib.hid (HF6.out.trans HF8.out (by simp))
    have HS8 : Hid (bq + 2 ≤ w8.heap.size) := Lib.hid (Nat.le_trans HS6.out HF8.out.size)
    go_wp2_with (go_at_call 49; refine HCG.out.mono ?_; rintro e w9 ⟨S1, rfl, h1, h3, h5⟩; rw [show bdE M.H (planL M.map q) = M.err q from HE.out.symm]; refine go_stop ?_)
    unfold Stop
    have HPN1 : Hid (∀ k ∈ p :: S1, k ≠ bq + 1) := Lib.hid fun k hk => by
      have h6 := HS8.out
      rcases List.mem_cons.1 hk with rfl | hk
      · exact (HPN.out k (by simp)).2
      · rcases h5 k hk with h1 | h1
        · exact (HPN.out k (List.mem_cons_of_mem _ h1)).2
        · omega
    have HM9 : Hid (MdAtB w9 p g S1 (M.next q)) := Lib.hid (by
      rw [HX.out]
      exact ⟨h3.keep HPB.out HM6.out.pn, fun hm => (h5 p hm).elim HM6.out.pn (fun hl => by have := HS8.out; omega), h1⟩)
    have HF9 : Hid (Fr (p :: S0) w w9) := Lib.hid (HFW.out.trans h3 (fun k hk => Or.inl (List.mem_cons_of_mem _ hk)))
    have HGR : Hid (Grow (p :: S0) (p :: S1) w) := Lib.hid (fun k hk => by
      rcases List.mem_cons.1 hk with rfl | hk
      · exact Or.inl (by simp)
      · rcases h5 k hk with h1 | h1
        · exact Or.inl (List.mem_cons_of_mem _ h1)
        · right; have := HBQE.out; have := HS8.out; omega)
    have HB09 := Lib.hid (h3.keep HBS.out (fun hm => by have := HPN.out _ (List.mem_cons_of_mem _ hm); omega))
    clear h1 h3 h5 x0 x1 d0 d1 d2 d3 d4 d5 d6 y0 y1 y2 y3 y4 y5
    obtain ⟨z0, z1, z2, z3, z4, z5, zz⟩ := cells6 HB09.out
    by_cases hz : M.err q = 0
    · have t3 : (M.err q == 0) = true := by rw [hz]; rfl
      have HZ := Lib.hid hz
      have HOKB : Hid (M.ok q = holdsC M.map q.cmps) := Lib.hid (by unfold MA.ok; rw [decide_eq_true ⟨HMQ.out, HKD.out, hz⟩]; rfl)
      clear hz
      go_wp2_with fail
      refine bodyPost_ret (v := .agg #[.int .i64 0, .int .i64 0, .int .i64 0, .int .i64 0, .bool (holdsC M.map q.cmps), .slice none 0 0]) (by simp [results, Tryz.results24, go_sem, *]) rfl ?_
      have hnn := six_sets w9 (bq + 1) (.int .i64 0) (.int .i64 0) (.int .i64 0) (.int .i64 0) (.bool (holdsC M.map q.cmps)) (.slice none 0 0)
      refine ⟨none, 0, S1, by rw [HOKB.out, HZ.out, HTL.out]; rfl, ?_, by rw [HTL.out]; exact LFar.nil _ _, fun k hk => by simp [Value.ownBlock] at hk, ?_, HGR.out⟩
      · exact HM9.out.keep hnn (by simp; omega) (fun k hk => by have := HPN1.out k (List.mem_cons_of_mem _ hk); simp; omega)
      · exact HF9.out.trans hnn (fun k hk => Or.inr (by have := HBQE.out; simp at hk; omega))
    · have t3 : (M.err q == 0) = false := beq_eq_false_iff_ne.2 hz
      have HZ := Lib.hid hz
      clear hz
      go_wp2_with fail
      refine bodyPost_ret (v := .agg #[.int .i64 0, .int .i64 0, .int .i64 0, .int .i64 (M.err q), .bool false, .slice none 0 0]) (by simp [results, Tryz.results24, go_sem, *]) rfl ?_
      have hnn := six_sets w9 (bq + 1) (.int .i64 0) (.int .i64 0) (.int .i64 0) (.int .i64 (M.err q)) (.bool false) (.slice none 0 0)
      refine ⟨none, 0, S1, by rw [(err_quiet (M := M) (q := q) HZ.out).1, HTL.out]; rfl, ?_, by rw [HTL.out]; exact LFar.nil _ _, fun k hk => by simp [Value.ownBlock] at hk, ?_, HGR.out⟩
      · exact HM9.out.keep hnn (by simp; omega) (fun k hk => by have := HPN1.out k (List.mem_cons_of_mem _ hk); simp; omega)
      · exact HF9.out.trans hnn (fun k hk => Or.inr (by have := HBQE.out; simp at hk; omega))
set_option maxRecDepth 100000 in
set_option maxHeartbeats 8000000 in
theorem mdl_serve20 {w : World} {p : Nat} {S : List Nat} {M : MA} {n : Nat} (q : Rq) (cv tv ev : Value) (h : Md w p S M) (hk : MOk M n) (hn : n ≤ 1000) (hq : RqFar S w q cv tv ev) (b0 : q.cmps.length ≤ 20) (b1 : q.thn.length ≤ 20) (b2 : q.els.length ≤ 20) :
    Calls Tryz.prog 9 #[.pointer (some ⟨p, 0, none⟩), .agg #[.int .i64 q.kind, .string q.f, .string q.t, .int .i64 q.rev, cv, tv, ev]] w fun e w' =>
      ∃ v S', e = .returned (.agg #[.int .i64 (M.next q).seq, .int .i64 (M.next q).H.rows.length, .int .i64 (M.next q).H.hor, .int .i64 (M.err q), .bool (M.ok q), v]) ∧ Md w' p S' (M.next q) ∧ LFar S' Kv.cells 3 w' v (M.tell q) ∧ (∀ k, v.ownBlock = some k → w.heap.size ≤ k) ∧ Fr S w w' ∧ Grow S S' w := by
  obtain ⟨g, S0, rfl, m⟩ := h
  obtain ⟨s1, c1, rfl, la1, ma1⟩ := LIn.form hq.c.lin
  obtain ⟨s2, c2, rfl, la2, ma2⟩ := LIn.form hq.t.lin
  obtain ⟨s3, c3, rfl, la3, ma3⟩ := LIn.form hq.e.lin
  obtain ⟨wb, hwb⟩ : ∃ wb, wb = (w.alloc (.cells #[.int .i64 q.kind, .string q.f, .string q.t, .int .i64 q.rev, .slice s1 q.cmps.length c1, .slice s2 q.thn.length c2, .slice s3 q.els.length c3] 35)).alloc (.cells #[.int .i64 0, .int .i64 0, .int .i64 0, .int .i64 0, .bool false, .slice none 0 0] 41) := ⟨_, rfl⟩
  have HWB := Lib.hid hwb
  have HF : Hid (Fr [] w wb) := Lib.hid (by rw [hwb]; exact ((Fr.refl [] w).alloc _).alloc _)
  have HB0 : Hid (wb.heap[w.heap.size + 1]? = some (.cells #[.int .i64 0, .int .i64 0, .int .i64 0, .int .i64 0, .bool false, .slice none 0 0] 41 (0, 0))) := Lib.hid (by
    rw [hwb]
    have h1 := new_block (w.alloc (.cells #[.int .i64 q.kind, .string q.f, .string q.t, .int .i64 q.rev, .slice s1 q.cmps.length c1, .slice s2 q.thn.length c2, .slice s3 q.els.length c3] 35)) (.cells #[.int .i64 0, .int .i64 0, .int .i64 0, .int .i64 0, .bool false, .slice none 0 0] 41)
    simp only [World.size_alloc] at h1
    exact h1)
  have HLT : Hid (∀ k ∈ p :: S0, k < w.heap.size) := Lib.hid (fun k hk => Md.lt (M := M) ⟨g, S0, rfl, m⟩ k hk)
  have HAN := Lib.hid (mdl_answer20 (n := n) q (.slice s1 q.cmps.length c1) (.slice s2 q.thn.length c2) (.slice s3 q.els.length c3) (m.keep HF.out (by simp) (by simp)) hk hn ⟨hq.c.keep0 HF.out, hq.t.keep0 HF.out, hq.e.keep0 HF.out, hq.wf⟩ b0 b1 b2)
  have hplt := lt_of_block m.blk
  clear hwb m hk hq
  go_enter Tryz.func9, Tryz.ntmps9
  go_wp2_with (go_at_call 24; rw [← HWB.out]; refine HAN.out.mono ?_; rintro e w5 ⟨s9, c9, S1, rfl, h1, h2, h3, h4, h5⟩; refine go_stop ?_)
  unfold Stop
  have H1 := Lib.hid h1
  have H2 := Lib.hid h2
  have H3 : Hid (∀ k, (Value.slice s9 (M.tell q).length c9).ownBlock = some k → w.heap.size ≤ k) := Lib.hid (fun k hk => Nat.le_trans HF.out.size (h3 k hk))
  have H4 : Hid (Fr (p :: S0) w w5) := Lib.hid ((HF.out.mono (by simp)).trans h4 (fun k hk => Or.inl hk))
  have H5 : Hid (Grow (p :: S0) (p :: S1) w) := Lib.hid (fun k hk => (h5 k hk).imp id (fun hl => Nat.le_trans HF.out.size hl))
  have HB5 := Lib.hid (h4.keep HB0.out (fun hm => by have := HLT.out _ hm; omega))
  have HPN1 : Hid (∀ k ∈ p :: S1, k ≠ w.heap.size + 1) := Lib.hid (fun k hk => by
    have hwb : wb.heap.size = w.heap.size + 2 := by rw [HWB.out]; simp
    rcases h5 k hk with h1 | h1
    · have := HLT.out k h1; omega
    · omega)
  have HNV : Hid (∀ k, (Value.slice s9 (M.tell q).length c9).ownBlock = some k → w.heap.size + 2 ≤ k) := Lib.hid (fun k hk => by
    have hwb : wb.heap.size = w.heap.size + 2 := by rw [HWB.out]; simp
    have := h3 k hk; omega)
  have HS5 : Hid (w.heap.size + 2 ≤ w5.heap.size) := Lib.hid (by
    have hwb : wb.heap.size = w.heap.size + 2 := by rw [HWB.out]; simp
    have := h4.size; omega)
  clear h1 h2 h3 h4 h5 HB0 HF HWB HAN
  have hal : Fr [] w5 (w5.alloc (.cells #[.int .i64 0, .int .i64 0, .int .i64 0, .int .i64 (M.err q), .bool (M.ok q), .slice s9 (M.tell q).length c9] 41)) := (Fr.refl [] w5).alloc _
  have HT : Hid (Fr [] w5 (w5.alloc (.cells #[.int .i64 0, .int .i64 0, .int .i64 0, .int .i64 (M.err q), .bool (M.ok q), .slice s9 (M.tell q).length c9] 41))) := Lib.hid hal
  have HTA : Hid ((w5.alloc (.cells #[.int .i64 0, .int .i64 0, .int .i64 0, .int .i64 (M.err q), .bool (M.ok q), .slice s9 (M.tell q).length c9] 41)).heap[w5.heap.size]? = some (.cells #[.int .i64 0, .int .i64 0, .int .i64 0, .int .i64 (M.err q), .bool (M.ok q), .slice s9 (M.tell q).length c9] 41 (0, 0))) := Lib.hid (new_block w5 _)
  have HHD := Lib.hid (mdl_head (w := w5.alloc (.cells #[.int .i64 0, .int .i64 0, .int .i64 0, .int .i64 (M.err q), .bool (M.ok q), .slice s9 (M.tell q).length c9] 41)) (S := p :: S1) (M := M.next q) ⟨g, S1, rfl, H1.out.keep hal (by simp) (by simp)⟩)
  clear hal
  go_wp2_with (go_at_call 21; refine HHD.out.mono ?_; rintro e wH ⟨rfl, h1⟩; refine go_stop ?_)
  unfold Stop
  have HFH := Lib.hid (HT.out.trans h1 (by simp))
  have HBH := Lib.hid (HFH.out.keep HB5.out (by simp))
  have HAH := Lib.hid (h1.keep HTA.out (by simp))
  have HMH := Lib.hid (H1.out.keep HFH.out (by simp) (by simp))
  have HLH := Lib.hid (H2.out.keep0 HFH.out)
  have HPA : Hid (∀ k ∈ p :: S1, k ≠ w5.heap.size) := Lib.hid (fun k hk => by have := Md.lt (M := M.next q) ⟨g, S1, rfl, H1.out⟩ k hk; omega)
  have HVA : Hid (0 < (M.tell q).length → ∀ k, (Value.slice s9 (M.tell q).length c9).ownBlock = some k → k ≠ w5.heap.size) := Lib.hid (fun hl k hk => by
    obtain ⟨g', off, c, hv, hlt, _⟩ := LIn.here H2.out.lin hl
    rw [hv] at hk
    simp [Value.ownBlock] at hk
    omega)
  clear h1 HTA HHD HT
  obtain ⟨ba, hba⟩ : ∃ ba, w5.heap.size = ba := ⟨_, rfl⟩
  rw [hba] at HAH HPA HVA ⊢
  have n1 : ¬ ba = w.heap.size + 1 := by have := HS5.out; omega
  have n2 : ¬ w.heap.size + 1 = ba := fun e => n1 e.symm
  have HBA : Hid (w.heap.size + 2 ≤ ba) := Lib.hid (by have := HS5.out; omega)
  clear hba HS5
  obtain ⟨z0, z1, z2, z3, z4, z5, zz⟩ := cells6 HAH.out
  obtain ⟨u0, u1, u2, u3, u4, u5, uz⟩ := cells6 HBH.out
  go_wp2_with fail
  refine bodyPost_ret (v := .agg #[.int .i64 (M.next q).seq, .int .i64 (M.next q).H.rows.length, .int .i64 (M.next q).H.hor, .int .i64 (M.err q), .bool (M.ok q), .slice s9 (M.tell q).length c9]) (by simp [results, Tryz.results9, go_sem, *]) rfl ?_
  have hd : ∀ k ∈ p :: S1, k ∉ [ba, w.heap.size + 1] := fun k hk => by have := HPN1.out k hk; have := HPA.out k hk; simp; omega
  have hnn := nine_sets wH ba (w.heap.size + 1) (.int .i64 (M.next q).seq) (.int .i64 (M.next q).H.rows.length) (.int .i64 (M.next q).H.hor) (.int .i64 (M.next q).seq) (.int .i64 (M.next q).H.rows.length) (.int .i64 (M.next q).H.hor) (.int .i64 (M.err q)) (.bool (M.ok q)) (.slice s9 (M.tell q).length c9)
  refine ⟨_, p :: S1, rfl, ⟨g, S1, rfl, HMH.out.keep hnn (hd p (by simp)) (fun k hk => hd k (List.mem_cons_of_mem _ hk))⟩, ?_, H3.out, (H4.out.trans HFH.out (by simp)).trans hnn (fun k hk => Or.inr (by have := HBA.out; simp at hk; omega)), H5.out⟩
  exact ⟨(LFar.keep (S := [ba, w.heap.size + 1]) ⟨HLH.out.lin, fun hl k hk hm => by have := HVA.out hl k hk; have := HNV.out k hk; simp at hm; omega⟩ hnn).lin, HLH.out.2⟩
theorem mdl_serve {w : World} {p : Nat} {S : List Nat} {M : MA} {n : Nat} (q : Rq) (cv tv ev : Value) (h : Md w p S M) (hk : MOk M n) (hn : n ≤ 1000) (hq : RqFar S w q cv tv ev) (b0 : q.cmps.length ≤ 8) (b1 : q.thn.length ≤ 8) (b2 : q.els.length ≤ 8) :
    Calls Tryz.prog 9 #[.pointer (some ⟨p, 0, none⟩), .agg #[.int .i64 q.kind, .string q.f, .string q.t, .int .i64 q.rev, cv, tv, ev]] w fun e w' =>
      ∃ v S', e = .returned (.agg #[.int .i64 (M.next q).seq, .int .i64 (M.next q).H.rows.length, .int .i64 (M.next q).H.hor, .int .i64 (M.err q), .bool (M.ok q), v]) ∧ Md w' p S' (M.next q) ∧ LFar S' Kv.cells 3 w' v (M.tell q) ∧ (∀ k, v.ownBlock = some k → w.heap.size ≤ k) ∧ Fr S w w' ∧ Grow S S' w :=
  mdl_serve20 q cv tv ev h hk hn hq (by omega) (by omega) (by omega)
end Go.Proofs.YtmipllkgioakoaaGreat
