/- impostlaw02.do, a deed that asks -/
import Derived.Test.YtkampbbginamhaaSlabDo2
namespace Go.Proofs.Ytkampbbginamhaa
open Go.RowKit
set_option linter.unusedVariables false
set_option linter.unusedSimpArgs false

theorem Fr.ofDrewN {S : List Nat} {w w' : World} {k : Nat} (h : Fr S (w.drewN k) w') : Fr S w w' := Sim.fr (X := w.drewN k) ⟨rfl, rfl, rfl, rfl⟩ h

set_option maxRecDepth 100000 in
set_option maxHeartbeats 2000000 in
theorem do_0 (w : World) (kind r i n v raw : Int) {V : Value} {FT : List Nat} {N K : Nat} {s : SS} {L : List Int} {G : Int} (h : SBoth w V FT N K s L) (ho : s.Ok G) (hN : N ≤ 10000000) (hK : K ≤ 10000000) (hL : L.length ≤ 100000) (n0 : 0 ≤ n) (n1 : n ≤ 255)
    (hr : IsW r) (hk1 : kind ≠ 1 ∧ kind ≠ 2 ∧ kind ≠ 4 ∧ kind ≠ 5) (hk : r = SS.deedR L kind n raw) :
    Calls Try.prog 11 #[V, .agg #[.int .i64 kind, .int .i64 i, .int .u8 n, .int .u64 v, .int .u64 raw]] w (DoOut w FT N K s L) := by
  obtain ⟨p, pm, mv, rv, fv, nn, mx, gx, tx, fx, k, lv, rfl, rfl, hs, hnn, hrf, hl, hap⟩ := h
  have HT := Lib.hid (fun X (hX : Fr [] w X) => told_any X n (hl.keep hX (by simp)) n0 n1 (by omega))
  have HS := Lib.hid hs
  have HRF := Lib.hid hrf
  have HL := Lib.hid hl
  have HAP := Lib.hid hap
  have HO := Lib.hid ho
  have HFLT := Lib.hid hs.lt
  have HC1 := Lib.hid (fun X (hX : Fr [] w X) => slab_cellof X p pm r i (hs.keep hX (by simp)) hr ho)
  have HC2 := Lib.hid (fun X (hX : Fr [] w X) => rcell_any X r i ⟨_, _, _, _, k, rfl, hrf.keep hX (by simp)⟩ hr ho)
  obtain ⟨⟨ma, mc, rfl⟩, ⟨ga, gc, rfl⟩, ⟨ta, tc, rfl⟩, ⟨fa, fc, rfl⟩⟩ := hrf.forms
  obtain ⟨la, lc, rfl, _⟩ := hl.form
  unfold refAgg at HC2
  clear hs hrf hl hap ho hr
  obtain ⟨cv, hcv⟩ : ∃ cv, cv = s.cellV r i := ⟨_, rfl⟩
  obtain ⟨ce, hce⟩ : ∃ ce, ce = s.cellE r i := ⟨_, rfl⟩
  rw [← hcv, ← hce] at HC1 HC2
  have hz1 : (cv == cv) = true := by simp
  have hz2 : (ce == ce) = true := by simp
  clear hcv hce
  have t1 : (kind == 1) = false := by simpa using hk1.1
  have t2 : (kind == 2) = false := by simpa using hk1.2.1
  have t4 : (kind == 4) = false := by simpa using hk1.2.2.1
  have t5 : (kind == 5) = false := by simpa using hk1.2.2.2
  obtain ⟨tv, htv⟩ : ∃ tv, tv = toldV L n := ⟨_, rfl⟩
  rw [SS.deedR, ← htv] at hk
  rw [← htv] at HT
  clear htv
  by_cases h4 : 4 < kind
  all_goals first
    | have u1 : decide (4 < kind) = true := by simpa using h4
      rw [if_pos (Or.inl h4)] at hk
    | have u1 : decide (4 < kind) = false := by simpa using h4
  all_goals by_cases h1 : kind < 1
  all_goals first
    | (exfalso; omega)
    | (rw [if_neg (by omega)] at hk)
    | (rw [if_pos (by omega)] at hk)
    | skip
  all_goals first
    | have u2 : decide (kind < 1) = true := by simpa using h1
    | have u2 : decide (kind < 1) = false := by simpa using h1
  all_goals
    subst hk
    clear hk1 h4 h1
    go_enter Try.func11, Try.ntmps11
    go_wp2_with (first | (go_at_call 20; refine (HT.out _ (by exact (((Fr.refl [] w).alloc _).alloc _).alloc _)).mono ?_; rintro e w1 ⟨rfl, rfl⟩) | (go_at_call 19; refine (HC1.out _ (by exact (((Fr.refl [] w).alloc _).alloc _).alloc _)).mono ?_; rintro e w1 ⟨rfl, k1, rfl⟩) | (go_at_call 30; refine (HC2.out _ (by exact ((((Fr.refl [] w).alloc _).alloc _).alloc _).drewN _)).mono ?_; rintro e w2 ⟨rfl, hf⟩; refine go_stop ?_))
    obtain ⟨hA, hB, hC, hfw⟩ := three_boxes (S := []) (w := w) (by simp) (Fr.ofDrewN hf)
    obtain ⟨a0, a1, a2, a3, a4, a5, a6, a7, a8, a9, fa10⟩ := cells10 hA
    obtain ⟨c0, c1, c2, c3, c4, c5, c6, c7, c8, c9, fc10⟩ := cells10 hC
    have hs2 := HS.out.keep hfw (by simp)
    have hr2 := HRF.out.keep hfw (by simp)
    have hl2 := HL.out.keep hfw (by simp)
    have HS2 := Lib.hid hs2
    have HR2 := Lib.hid hr2
    have HL2 := Lib.hid hl2
    have HF2 := Lib.hid hfw
    clear hf hA hB hC hs2 hr2 hl2 hfw
    unfold Stop
    go_wp2
    refine bodyPost_ret (v := .tuple #[.agg #[.pointer (some ⟨p, 0, none⟩), .pointer (some ⟨pm, 0, none⟩), .slice ma s.c.length mc, .int .i64 k, .int .i64 s.first, .int .i64 s.words, .slice ga s.recs.length gc, .slice ta s.recs.length tc, .slice fa s.row.length fc, .slice la L.length lc], .bool true]) (by simp [results, Try.results11, go_sem, *]) rfl ?_
    refine doPost2 (S := [w.heap.size, w.heap.size + 1 + 1]) HFLT.out HS2.out (by omega) (HF2.out.mono (by simp)) (fun j hj => Or.inl hj) HR2.out HL2.out ?_ ?_ HAP.out
    · repeat (first | (with_reducible exact Fr.refl _ _) | (with_reducible refine Fr.alloc ?_ _) | (with_reducible refine Fr.drew ?_) | (with_reducible refine Fr.setCell ?_ (Or.inl (by simp)) _))
    · intro j hj
      simp at hj
      refine ⟨by omega, fun hm => ?_, fun hm => ?_, fun hm => ?_⟩
      · have := HRF.out.lt j hm; omega
      · have := HL.out.lt j hm; omega
      · have := HFLT.out j (by simp [SlabAt.foot, hm]); omega
end Go.Proofs.Ytkampbbginamhaa
