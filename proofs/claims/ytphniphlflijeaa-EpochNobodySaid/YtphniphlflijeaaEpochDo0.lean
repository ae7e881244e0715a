/- impostlaw03.do: the deed Free -/
import Derived.Test.YtphniphlflijeaaEpochDo
namespace Go.Proofs.Ytphniphlflijeaa
open Go.RowKit
set_option linter.unusedVariables false
set_option linter.unusedSimpArgs false

set_option maxHeartbeats 4000000 in
theorem do_0 (w : World) (p : Nat) {S V A X} (k t x : Int) (hk : k ≠ 1 ∧ k ≠ 2 ∧ k ≠ 3 ∧ k ≠ 4) (hp : Pool w p S A) (hr : RefS w V X) (hb : Fit A X) :
    Calls Try.prog 12 #[.pointer (some ⟨p, 0, none⟩), V, .agg #[.int .i64 k, .int .i64 t, .int .u64 x]] w (DoOut w p S A.free X.free (decide (A.freed = X.freed))) := by
  have HB := Lib.hid hb
  have HRF := Lib.hid (hr.far hp)
  have HPLT := Lib.hid hp.lt
  have HP : Hid (∀ W, Fr [] w W → Pool W p S A) := Lib.hid (fun W hW => hp.keep hW (by simp))
  have HR : Hid (∀ W, Fr S w W → RefS W V X) := Lib.hid (fun W hW => hr.keep hW (hr.far hp))
  obtain ⟨iv, rv, rfl, h⟩ := hr
  obtain ⟨⟨ia, ic, rfl⟩, ⟨ra, rc, rfl⟩⟩ := h.forms
  unfold refAgg at HR HRF ⊢
  clear h hp hb
  have t1 : (k == 1) = false := by simpa using hk.1
  have t2 : (k == 2) = false := by simpa using hk.2.1
  have t3 : (k == 3) = false := by simpa using hk.2.2.1
  have t4 : (k == 4) = false := by simpa using hk.2.2.2
  clear hk
  go_enter Try.func12, Try.ntmps12
  go_wp2_with (go_at_call 16; refine (epoch_free _ p (HP.out _ (((((Fr.refl [] w).alloc _).alloc _).alloc _))) HB.out.row).mono ?_; rintro e w1 ⟨fv, rfl, hl1, hn1, hp1, hf1⟩; refine go_stop ?_)
  obtain ⟨fs, fc, rfl, _⟩ := hl1.form
  obtain ⟨hA, hB, hC, hf⟩ := three_boxes HPLT.out hf1
  obtain ⟨a0, a1, a2, _⟩ := cells3 hA
  have lA := lt_of_block hA
  have lB := lt_of_block hB
  have lC := lt_of_block hC
  have HC1 := Lib.hid hC
  have HF1 := Lib.hid hf
  have HP1 := Lib.hid hp1
  have HL1 := Lib.hid hl1
  have HN1 := Lib.hid (fun k hk => (by have := hn1 k hk; simp at this; omega : w.heap.size + 1 + 1 < k))
  clear hf1 hA hB hC hf hp1 hl1 hn1
  unfold Stop
  go_wp2_with (go_at_call 26; refine (rfree_any _ (HR.out _ HF1.out) HB.out.rlen HB.out.ep0 HB.out.ep1 HB.out.rrow).mono ?_; rintro e w2 ⟨V2, kv, rfl, ⟨hr2, hf2⟩, hl2, hn2⟩; refine go_stop ?_)
  have hp2 := HP1.out.keep hf2 (by simp)
  have hC2 := hf2.keep HC1.out (by simp)
  obtain ⟨i2, r2, rfl, h2⟩ := hr2
  obtain ⟨⟨j2, c2, rfl⟩, ⟨k2, d2, rfl⟩⟩ := h2.forms
  obtain ⟨ks, kc, rfl, _⟩ := hl2.form
  obtain ⟨q0, q1, q2, qf⟩ := cells3 hC2
  have hf0 := HF1.out.trans hf2 (by simp)
  have lC2 := lt_of_block hC2
  have qf0 := qf 0
  have qf1 := qf 1
  have qf2 := qf 2
  have hR2 : RefS w2 (refAgg (.slice j2 _ c2) (.slice k2 _ d2) _) X.free := ⟨_, _, rfl, h2⟩
  have n1 : ¬ w.heap.size + 1 + 1 = w2.heap.size := by omega
  have n2 : ¬ w2.heap.size = w.heap.size + 1 + 1 := by omega
  have hLA := HL1.out.keep hf2 (by simp)
  have HLA := Lib.hid hLA
  have HLB := Lib.hid hl2
  have HN2 := Lib.hid hn2
  have hs2 := hf2.size
  have HSM : Hid (∀ Z, Fr [w.heap.size + 1 + 1] w2 Z → Calls Try.prog 21 #[.slice fs A.freed.length fc, .slice ks X.freed.length kc] Z fun e w' => e = .returned (.bool (decide (A.freed = X.freed))) ∧ Fr [] Z w') :=
    Lib.hid (fun Z hZ => rsame_any Z (hLA.keep hZ (by intro k hk; have := HN1.out k hk; simp; omega)) (hl2.keep hZ (by intro k hk; have := hn2 k hk; simp; omega)))
  have HP2 := Lib.hid hp2
  have HR2 := Lib.hid hR2
  have HC2 := Lib.hid hC2
  have HF0 := Lib.hid hf0
  clear hp2 hC2 h2 hf0 hR2 hf2 qf hLA hl2 hn2
  unfold Stop
  unfold refAgg at HR2 ⊢
  have HY := Lib.hid (new_block w2 (.cells #[.slice j2 X.free.inn.length c2, .int .i64 X.free.ep, .slice k2 X.free.row.length d2] 29))
  have HFY : Hid (∀ o, Fr [] w2 (w2.alloc o).drew) := Lib.hid (fun o => ((Fr.refl [] w2).alloc o).drew)
  have HB0 := Lib.hid (show w.heap.size ≤ w.heap.size + 1 + 1 from by omega)
  have HS0 := Lib.hid (show ∀ k ∈ S, k ∈ S ∨ w.heap.size ≤ k from fun k hk => Or.inl hk)
  go_wp2_with fail
  go_region_held3 (fun w' => w'.cell? ⟨w2.heap.size, 0, none⟩ = some (.slice j2 X.free.inn.length c2) ∧ w'.cell? ⟨w2.heap.size, 1, none⟩ = some (.int .i64 X.free.ep) ∧ w'.cell? ⟨w2.heap.size, 2, none⟩ = some (.slice k2 X.free.row.length d2)) (go_keep)
    (first
      | (go_at_call 21; refine (HSM.out _ ((HFY.out _).mono (by simp))).mono ?_; rintro e w4 ⟨rfl, hf4⟩
         have hfx := (HFY.out _).trans hf4 (by simp)
         have hY4 := hf4.keep HY.out (by simp)
         have hC4 := hfx.keep HC2.out (by simp)
         obtain ⟨g0, g1, g2, _⟩ := cells3 hY4
         obtain ⟨r0, r1, r2, rf⟩ := cells3 hC4
         have rf0 := rf 0
         have rf1 := rf 1
         have rf2 := rf 2
         have HEND := Lib.hid (do_end0 (HP2.out.keep hfx (by simp)) (HR2.out.keep hfx (by simp)) hC4 (HF0.out.trans hfx (by simp)) HS0.out HB0.out)
         clear hf4 hfx hY4 hC4 rf))
  all_goals go_wp2
  all_goals refine bodyPost_ret (v := .tuple #[.agg #[.slice j2 X.free.inn.length c2, .int .i64 X.free.ep, .slice k2 X.free.row.length d2], .bool (decide (A.freed = X.freed))]) (by simp [results, Try.results12, go_sem, *]) rfl ?_
  all_goals exact HEND.out _ _ _ _
end Go.Proofs.Ytphniphlflijeaa
