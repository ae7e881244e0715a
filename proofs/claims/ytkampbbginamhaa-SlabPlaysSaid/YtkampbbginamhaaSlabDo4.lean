/- impostlaw02.do, a deed that stores -/
import Derived.Test.YtkampbbginamhaaSlabDo0
namespace Go.Proofs.Ytkampbbginamhaa
open Go.RowKit
set_option linter.unusedVariables false
set_option linter.unusedSimpArgs false

theorem SS.cell_ok {s : SS} {r i : Int} {G : Int} (ho : s.Ok G) (h : s.cellE r i = 0) : ∃ a : Nat, s.cellV r i = a ∧ a < s.c.length := by
  unfold SS.cellE at h
  unfold SS.cellV
  split at h
  · rename_i hh
    rw [if_pos hh]
    split at h
    · rename_i hi
      rw [if_pos hi]
      obtain ⟨q, hq, hql, _⟩ := SS.has_place hh
      have hq1 : (q + 1) * s.words ≤ s.recs.length * s.words := Nat.mul_le_mul_right _ hql
      rw [Nat.add_mul, Nat.one_mul] at hq1
      have := ho.fit
      refine ⟨s.first + q * s.words + i.toNat, ?_, by omega⟩
      rw [← hq]
      have e : ((q : Int) * s.words) = ((q * s.words : Nat) : Int) := by simp
      rw [e]; omega
    · omega
  · omega

set_option maxRecDepth 100000 in
set_option maxHeartbeats 2000000 in
theorem do_4 (w : World) (i n v raw : Int) {V : Value} {FT : List Nat} {N K : Nat} {s : SS} {L : List Int} {G : Int} (h : SBoth w V FT N K s L) (ho : s.Ok G) (hN : N ≤ 10000000) (hK : K ≤ 10000000) (hL : L.length ≤ 100000) (n0 : 0 ≤ n) (n1 : n ≤ 255)
    (hr : IsW (toldV L n)) :
    Calls Try.prog 11 #[V, .agg #[.int .i64 4, .int .i64 i, .int .u8 n, .int .u64 v, .int .u64 raw]] w (DoOut w FT (N + s.words) (K + s.words)
      (if s.cellE (toldV L n) i = 0 then { s with c := s.c.set (s.cellV (toldV L n) i).toNat v } else s) L) := by
  obtain ⟨p, pm, mv, rv, fv, nn, mx, gx, tx, fx, k, lv, rfl, rfl, hs, hnn, hrf, hl, hap⟩ := h
  obtain ⟨tv, htv⟩ : ∃ tv, tv = toldV L n := ⟨_, rfl⟩
  rw [← htv] at hr ⊢
  have HT := Lib.hid (fun X (hX : Fr [] w X) => told_any X n (hl.keep hX (by simp)) n0 n1 (by omega))
  rw [← htv] at HT
  clear htv
  have HS := Lib.hid hs
  have HRF := Lib.hid hrf
  have HL := Lib.hid hl
  have HAP := Lib.hid hap
  have HO := Lib.hid ho
  have HFLT := Lib.hid hs.lt
  have HC2 := Lib.hid (fun X (hX : Fr [] w X) => rcell_any X tv i ⟨_, _, _, _, k, rfl, hrf.keep hX (by simp)⟩ hr ho)
  have hwd := ho.word
  have hbig := ho.big
  obtain ⟨⟨ma, mc, rfl⟩, ⟨ga, gc, rfl⟩, ⟨ta, tc, rfl⟩, ⟨fa, fc, rfl⟩⟩ := hrf.forms
  obtain ⟨la, lc, rfl, _⟩ := hl.form
  unfold refAgg at HC2
  clear hs hrf hl hap ho hr
  by_cases hce : s.cellE tv i = 0
  · obtain ⟨a, hcv, ha⟩ := SS.cell_ok HO.out hce
    rw [if_pos hce, hcv, Int.toNat_natCast]
    rw [hce, hcv] at HC2
    clear hce hcv
    go_enter Try.func11, Try.ntmps11
    go_wp2_with (first | (go_at_call 20; refine (HT.out _ (by exact (((Fr.refl [] w).alloc _).alloc _).alloc _)).mono ?_; rintro e w1 ⟨rfl, rfl⟩) | (go_at_call 30; refine (HC2.out _ (by exact (((Fr.refl [] w).alloc _).alloc _).alloc _)).mono ?_; rintro e w1 ⟨rfl, hf⟩; refine go_stop ?_))
    obtain ⟨hA, hB, hC, hfw⟩ := three_boxes (S := []) (w := w) (by simp) hf
    obtain ⟨a0, a1, a2, a3, a4, a5, a6, a7, a8, a9, fa10⟩ := cells10 hA
    obtain ⟨b0, b1, b2, b3, b4, fb5⟩ := cells5 hB
    have hsz1 : w.heap.size + 1 + 1 < w1.heap.size := lt_of_block hC
    have hkK := HRF.out.kK
    have hk0 := HRF.out.k0
    have HST := Lib.hid (rstore_int w1 a k v (HRF.out.cells.keep hfw (by simp)) (by omega) (by omega) (by omega) hk0 (by omega))
    have HF1 := Lib.hid hfw
    have HA1 := Lib.hid hA
    have HB1 := Lib.hid hB
    have HC1 := Lib.hid hC
    clear hf hA hB hC hfw
    unfold Stop
    go_wp2_with (go_at_call 31; refine HST.out.mono ?_; rintro e w2 ⟨g', c', rfl, hnew⟩; refine go_stop ?_)
    rw [Int.toNat_natCast] at hnew
    have hA := hnew.2.1.keep HA1.out (by simp)
    have hB := hnew.2.1.keep HB1.out (by simp)
    have hC := hnew.2.1.keep HC1.out (by simp)
    have hF2 := HF1.out.trans hnew.2.1 (by simp)
    have hg' := hnew.2.2 g' rfl
    have hg2 := (hnew.1.lt g' rfl).2
    clear a0 a1 a2 a3 a4 a5 a6 a7 a8 a9 fa10 b0 b1 b2 b3 b4 fb5
    obtain ⟨a0, a1, a2, a3, a4, a5, a6, a7, a8, a9, fa10⟩ := cells10 hA
    have hsz2 : w.heap.size + 1 + 1 < w2.heap.size := lt_of_block hC
    have hsz2a : w.heap.size < w2.heap.size := by omega
    have HA2 := Lib.hid hA
    have HB2 := Lib.hid hB
    have HC2' := Lib.hid hC
    have HF2 := Lib.hid hF2
    have HN2 := Lib.hid hnew.1
    clear hnew hA hB hC hF2
    unfold Stop
    go_wp2_with fail
    have hA := blk_alloc (set_block (set_block HA2.out 2 (.slice (some ⟨g', 0, none⟩) s.c.length c')) 3 (.int .i64 (k + 1))) (.cells #[.slice (some ⟨g', 0, none⟩) s.c.length c', .int .i64 (k + 1)] 28)
    have hB := blk_alloc (set_other (set_other HB2.out (show w.heap.size + 1 ≠ w.heap.size by omega) 2 (.slice (some ⟨g', 0, none⟩) s.c.length c')) (show w.heap.size + 1 ≠ w.heap.size by omega) 3 (.int .i64 (k + 1))) (.cells #[.slice (some ⟨g', 0, none⟩) s.c.length c', .int .i64 (k + 1)] 28)
    have hC := blk_alloc (set_other (set_other HC2'.out (show w.heap.size + 1 + 1 ≠ w.heap.size by omega) 2 (.slice (some ⟨g', 0, none⟩) s.c.length c')) (show w.heap.size + 1 + 1 ≠ w.heap.size by omega) 3 (.int .i64 (k + 1))) (.cells #[.slice (some ⟨g', 0, none⟩) s.c.length c', .int .i64 (k + 1)] 28)
    have hF : Fr [w.heap.size] w2 (((w2.setCell ⟨w.heap.size, 2, none⟩ (.slice (some ⟨g', 0, none⟩) s.c.length c')).setCell ⟨w.heap.size, 3, none⟩ (.int .i64 (k + 1))).alloc (.cells #[.slice (some ⟨g', 0, none⟩) s.c.length c', .int .i64 (k + 1)] 28)) := by
      repeat (first | (with_reducible exact Fr.refl _ _) | (with_reducible refine Fr.alloc ?_ _) | (with_reducible refine Fr.drew ?_) | (with_reducible refine Fr.setCell ?_ (Or.inl (by simp)) _))
    generalize ((w2.setCell ⟨w.heap.size, 2, none⟩ (.slice (some ⟨g', 0, none⟩) s.c.length c')).setCell ⟨w.heap.size, 3, none⟩ (.int .i64 (k + 1))).alloc (.cells #[.slice (some ⟨g', 0, none⟩) s.c.length c', .int .i64 (k + 1)] 28) = W3 at hA hB hC hF ⊢
    simp at hA
    have hF3 : Fr [] w W3 := HF2.out.trans hF (by intro x hx; simp at hx; exact Or.inr (by omega))
    have hN3 : Ref W3 (.slice (some ⟨g', 0, none⟩) s.c.length c') (s.c.set a v) := HN2.out.keep hF (by intro j hj; simp [Value.ownBlock] at hj; simp; omega)
    have hs3 := HS.out.keep hF3 (by simp)
    clear a0 a1 a2 a3 a4 a5 a6 a7 a8 a9 fa10
    obtain ⟨a0, a1, a2, a3, a4, a5, a6, a7, a8, a9, fa10⟩ := cells10 hA
    obtain ⟨b0, b1, b2, b3, b4, fb5⟩ := cells5 hB
    have hsz3 : w.heap.size + 1 + 1 < W3.heap.size := lt_of_block hC
    have hhas : (MS.mk s.c nn).has a = true := by simp [MS.has]; omega
    have hMS : ∀ X, Sim X W3 → Calls Try.prog 32 #[.pointer (some ⟨pm, 0, none⟩), .int .i64 a, .int .u64 v] X fun e w' => e = .returned (.int .i64 0) ∧ MemAt w' pm mv ⟨s.c.set a v, nn + 1⟩ ∧ Fr (MemAt.foot pm mv) W3 w' := fun X hX =>
      (store_any X pm a v (SlabAt.same hs3 hX.heap).mem (by show s.c.length ≤ _; omega) (by show nn ≤ _; omega)).mono fun e w' ⟨h1, h2, h3⟩ => by
        rw [MS.err_yes hhas] at h1
        rw [MS.put, hhas, if_pos rfl, Int.toNat_natCast] at h2
        exact ⟨h1, h2, hX.fr h3⟩
    have hft : ∀ j, w.heap.size ≤ j → j ∉ MemAt.foot pm mv := by
      intro j hj hm
      simp only [MemAt.foot, List.mem_cons, Option.mem_toList] at hm
      rcases hm with e | e
      · have := HFLT.out j (by simp [SlabAt.foot, e]); omega
      · have := HFLT.out j (by simp [SlabAt.foot, e]); omega
    have q1 : ¬ w.heap.size = w.heap.size + 1 + 1 := by omega
    have q2 : ¬ w.heap.size + 1 + 1 = w.heap.size := by omega
    have HMS := Lib.hid hMS
    have HFT := Lib.hid hft
    have HA3 := Lib.hid hA
    have HB3 := Lib.hid hB
    have HC3 := Lib.hid hC
    have HF3 := Lib.hid hF3
    have HN3 := Lib.hid hN3
    have HS3 := Lib.hid hs3
    clear hA hB hC hF hF3 hN3 hs3 hhas hMS hft
    go_region_held3 (fun w' => w'.cell? ⟨w.heap.size, 0, none⟩ = some (.pointer (some ⟨p, 0, none⟩)) ∧ w'.cell? ⟨w.heap.size, 1, none⟩ = some (.pointer (some ⟨pm, 0, none⟩)) ∧ w'.cell? ⟨w.heap.size, 2, none⟩ = some (.slice (some ⟨g', 0, none⟩) s.c.length c') ∧ w'.cell? ⟨w.heap.size, 3, none⟩ = some (.int .i64 (k + 1)) ∧ w'.cell? ⟨w.heap.size, 4, none⟩ = some (.int .i64 s.first) ∧ w'.cell? ⟨w.heap.size, 5, none⟩ = some (.int .i64 s.words) ∧ w'.cell? ⟨w.heap.size, 6, none⟩ = some (.slice ga s.recs.length gc) ∧ w'.cell? ⟨w.heap.size, 7, none⟩ = some (.slice ta s.recs.length tc) ∧ w'.cell? ⟨w.heap.size, 8, none⟩ = some (.slice fa s.row.length fc) ∧ w'.cell? ⟨w.heap.size, 9, none⟩ = some (.slice la L.length lc) ∧ w'.cell? ⟨w.heap.size + 1, 3, none⟩ = some (.int .u64 v)) (go_keep) (first | (go_at_call 32; refine (HMS.out _ (by exact ⟨rfl, rfl, rfl, rfl⟩)).mono ?_; rintro e w4 ⟨rfl, hm4, hf4⟩; have hA4 := hf4.keep HA3.out (HFT.out _ (by omega)); have hB4 := hf4.keep HB3.out (HFT.out _ (by omega)); have hC4 := hf4.keep HC3.out (HFT.out _ (by omega)); obtain ⟨x0, x1, x2, x3, x4, x5, x6, x7, x8, x9, fx⟩ := cells10 hA4; obtain ⟨y0, y1, y2, y3, y4, fy⟩ := cells5 hB4; obtain ⟨z0, z1, z2, z3, z4, z5, z6, z7, z8, z9, fz⟩ := cells10 hC4; have HM4 := Lib.hid hm4; have HF4 := Lib.hid hf4; clear hm4 hf4 hA4 hB4 hC4))
    go_wp2
    refine bodyPost_ret (v := .tuple #[.agg #[.pointer (some ⟨p, 0, none⟩), .pointer (some ⟨pm, 0, none⟩), .slice (some ⟨g', 0, none⟩) s.c.length c', .int .i64 (k + 1), .int .i64 s.first, .int .i64 s.words, .slice ga s.recs.length gc, .slice ta s.recs.length tc, .slice fa s.row.length fc, .slice la L.length lc], .bool true]) (by simp [results, Try.results11, go_sem, *]) rfl ?_
    have hft := HFT.out
    have hsub : ∀ x ∈ MemAt.foot pm mv, x ∈ SlabAt.foot p pm mv rv fv := by
      intro x hx
      simp only [MemAt.foot, List.mem_cons, Option.mem_toList] at hx
      simp only [SlabAt.foot, List.mem_cons, List.mem_append, Option.mem_toList]
      rcases hx with e | e
      · exact Or.inr (Or.inl e)
      · exact Or.inr (Or.inr (Or.inl e))
    have hF4 : Fr (SlabAt.foot p pm mv rv fv) w w4 := (HF3.out.mono (by simp)).trans HF4.out (fun x hx => Or.inl (hsub x hx))
    have hnm : ∀ j, (j ∈ blks (refAgg (.slice ma s.c.length mc) (.slice ga s.recs.length gc) (.slice ta s.recs.length tc) (.slice fa s.row.length fc) k s) ∨ (Value.slice la L.length lc).ownBlock = some j) → j ∉ MemAt.foot pm mv := fun j hj hm => HAP.out j hj (hsub j hm)
    have hr4 : RefF w4 (.slice (some ⟨g', 0, none⟩) s.c.length c') (.slice ga s.recs.length gc) (.slice ta s.recs.length tc) (.slice fa s.row.length fc) (k + 1) (K + s.words) { s with c := s.c.set a v } := by
      have hh := (HRF.out.keep HF3.out (by simp)).keep HF4.out (fun j hj => hnm j (Or.inl hj))
      refine ⟨?_, hh.gens, hh.taken, hh.free, by omega, by omega⟩
      exact HN3.out.keep HF4.out (fun j hj => hft j (by simp [Value.ownBlock] at hj; omega))
    refine doPost2 (s' := { s with c := s.c.set a v }) (S := [w.heap.size, w.heap.size + 1 + 1]) HFLT.out (HS3.out.stored HM4.out HF4.out) (by omega) hF4 (fun j hj => Or.inl hj) hr4 ((HL.out.keep HF3.out (by simp)).keep HF4.out (fun j hj => hnm j (Or.inr hj))) ?_ ?_ ?_
    · repeat (first | (with_reducible exact Fr.refl _ _) | (with_reducible refine Fr.alloc ?_ _) | (with_reducible refine Fr.drew ?_) | (with_reducible refine Fr.setCell ?_ (Or.inl (by simp)) _))
    · intro j hj
      simp at hj
      refine ⟨by omega, fun hm => ?_, fun hm => ?_, fun hm => ?_⟩
      · have hb := (blks_refAgg (.slice (some ⟨g', 0, none⟩) s.c.length c') (.slice ga s.recs.length gc) (.slice ta s.recs.length tc) (.slice fa s.row.length fc) (k + 1) s j).1 hm
        rcases hb with e | e
        · simp [Value.ownBlock] at e; omega
        · have := HRF.out.lt j ((blks_refAgg _ _ _ _ _ _ _).2 (Or.inr e)); omega
      · have := HL.out.lt j hm; omega
      · have := HFLT.out j (by simp [SlabAt.foot, hm]); omega
    · rintro b (hm | hm)
      · have hb := (blks_refAgg (.slice (some ⟨g', 0, none⟩) s.c.length c') (.slice ga s.recs.length gc) (.slice ta s.recs.length tc) (.slice fa s.row.length fc) (k + 1) s b).1 hm
        rcases hb with e | e
        · intro hx
          simp [Value.ownBlock] at e
          have := HFLT.out b hx
          have := HF1.out.size
          omega
        · exact HAP.out b (Or.inl ((blks_refAgg _ _ _ _ _ _ _).2 (Or.inr e)))
      · exact HAP.out b (Or.inr hm)
  · rw [if_neg hce]
    obtain ⟨ce, hcee⟩ : ∃ ce, ce = s.cellE tv i := ⟨_, rfl⟩
    rw [← hcee] at HC2 hce
    have hz : (ce == 0) = false := by simpa using hce
    clear hcee hce
    go_enter Try.func11, Try.ntmps11
    go_wp2_with (first | (go_at_call 20; refine (HT.out _ (by exact (((Fr.refl [] w).alloc _).alloc _).alloc _)).mono ?_; rintro e w1 ⟨rfl, rfl⟩) | (go_at_call 30; refine (HC2.out _ (by exact (((Fr.refl [] w).alloc _).alloc _).alloc _)).mono ?_; rintro e w1 ⟨rfl, hf⟩; refine go_stop ?_))
    obtain ⟨hA, hB, hC, hfw⟩ := three_boxes (S := []) (w := w) (by simp) hf
    obtain ⟨a0, a1, a2, a3, a4, a5, a6, a7, a8, a9, fa10⟩ := cells10 hA
    obtain ⟨c0, c1, c2, c3, c4, c5, c6, c7, c8, c9, fc10⟩ := cells10 hC
    have HF2 := Lib.hid hfw
    clear hf hA hB hC hfw
    unfold Stop
    go_wp2
    refine bodyPost_ret (v := .tuple #[.agg #[.pointer (some ⟨p, 0, none⟩), .pointer (some ⟨pm, 0, none⟩), .slice ma s.c.length mc, .int .i64 k, .int .i64 s.first, .int .i64 s.words, .slice ga s.recs.length gc, .slice ta s.recs.length tc, .slice fa s.row.length fc, .slice la L.length lc], .bool true]) (by simp [results, Try.results11, go_sem, *]) rfl ?_
    have hr2 := HRF.out.keep HF2.out (by simp)
    refine doPost2 (S := [w.heap.size, w.heap.size + 1 + 1]) HFLT.out (HS.out.keep HF2.out (by simp)) (by omega) (HF2.out.mono (by simp)) (fun j hj => Or.inl hj) ⟨hr2.cells, hr2.gens, hr2.taken, hr2.free, hr2.k0, by have := hr2.kK; omega⟩ (HL.out.keep HF2.out (by simp)) ?_ ?_ HAP.out
    · repeat (first | (with_reducible exact Fr.refl _ _) | (with_reducible refine Fr.alloc ?_ _) | (with_reducible refine Fr.drew ?_) | (with_reducible refine Fr.setCell ?_ (Or.inl (by simp)) _))
    · intro j hj
      simp at hj
      refine ⟨by omega, fun hm => ?_, fun hm => ?_, fun hm => ?_⟩
      · have := HRF.out.lt j hm; omega
      · have := HL.out.lt j hm; omega
      · have := HFLT.out j (by simp [SlabAt.foot, hm]); omega
end Go.Proofs.Ytkampbbginamhaa
