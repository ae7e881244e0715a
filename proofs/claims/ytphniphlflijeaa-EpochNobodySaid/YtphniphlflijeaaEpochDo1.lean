/- impostlaw03.do: deeds of both, and whether the answers were the same: Enter, Exit, Advance, Retire -/
import Derived.Test.YtphniphlflijeaaEpochDo
namespace Go.Proofs.Ytphniphlflijeaa
open Go.RowKit
set_option linter.unusedVariables false
set_option linter.unusedSimpArgs false

set_option maxHeartbeats 2000000 in
theorem do_1 (w : World) (p : Nat) {S V A X} (t x : Int) (hp : Pool w p S A) (hr : RefS w V X) (hb : Fit A X) :
    Calls Try.prog 12 #[.pointer (some ⟨p, 0, none⟩), V, .agg #[.int .i64 1, .int .i64 t, .int .u64 x]] w (DoOut w p S (A.enter t) (X.enter t) (A.enterE t == X.enterE t)) := by
  have HB := Lib.hid hb
  have HRF := Lib.hid (hr.far hp)
  have HPLT := Lib.hid hp.lt
  have HP : Hid (∀ W, Fr [] w W → Pool W p S A) := Lib.hid (fun W hW => hp.keep hW (by simp))
  have HR : Hid (∀ W, Fr S w W → RefS W V X) := Lib.hid (fun W hW => hr.keep hW (hr.far hp))
  obtain ⟨iv, rv, rfl, h⟩ := hr
  obtain ⟨⟨ia, ic, rfl⟩, ⟨ra, rc, rfl⟩⟩ := h.forms
  unfold refAgg at HR HRF ⊢
  clear h hp hb
  go_enter Try.func12, Try.ntmps12
  go_wp2_with (go_at_call 17; refine (epoch_enter _ p t (HP.out _ (((((Fr.refl [] w).alloc _).alloc _).alloc _))) HB.out.th).mono ?_; rintro e w1 ⟨rfl, hout⟩; refine go_stop ?_)
  obtain ⟨S1, hp1, hf1, hS1⟩ := hout
  obtain ⟨hA, hB, hC, hf⟩ := three_boxes HPLT.out hf1
  obtain ⟨a0, a1, a2, _⟩ := cells3 hA
  obtain ⟨b0, b1, b2, _⟩ := cells3 hB
  have lA := lt_of_block hA
  have lB := lt_of_block hB
  have lC := lt_of_block hC
  have HC1 := Lib.hid hC
  have HF1 := Lib.hid hf
  have HP1 := Lib.hid hp1
  have HS1 := Lib.hid (fun k hk => (hS1 k hk).imp id (fun h => (by simp at h; omega : w.heap.size ≤ k)))
  clear hf1 hS1 hA hB hC hf hp1
  unfold Stop
  go_wp2_with (go_at_call 22; refine (renter_any _ t (HR.out _ HF1.out) HB.out.inn).mono ?_; rintro e w2 ⟨V2, rfl, hr2, hf2⟩; refine go_stop ?_)
  have hp2 := HP1.out.keep hf2 (by simp)
  have hC2 := hf2.keep HC1.out (by simp)
  obtain ⟨i2, r2, rfl, h2⟩ := hr2
  obtain ⟨⟨j2, c2, rfl⟩, ⟨k2, d2, rfl⟩⟩ := h2.forms
  obtain ⟨q0, q1, q2, qf⟩ := cells3 hC2
  have hf0 := HF1.out.trans hf2 (by simp)
  have lC2 := lt_of_block hC2
  have qf0 := qf 0
  have qf1 := qf 1
  have qf2 := qf 2
  have hR2 : RefS w2 (refAgg (.slice j2 _ c2) (.slice k2 _ d2) _) (X.enter t) := ⟨_, _, rfl, h2⟩
  have HEND := Lib.hid (do_end hp2 hR2 hC2 hf0 HS1.out (by omega))
  have n1 : ¬ w.heap.size + 1 + 1 = w2.heap.size := by omega
  have n2 : ¬ w2.heap.size = w.heap.size + 1 + 1 := by omega
  clear hp2 hC2 h2 hf0 hR2 hf2 qf
  unfold Stop
  unfold refAgg at HEND ⊢
  go_wp2
  refine bodyPost_ret (v := .tuple #[.agg #[.slice j2 (X.enter t).inn.length c2, .int .i64 (X.enter t).ep, .slice k2 (X.enter t).row.length d2], .bool (A.enterE t == X.enterE t)]) (by simp [results, Try.results12, go_sem, *]) rfl ?_
  exact HEND.out _ _ _ _ _

set_option maxHeartbeats 2000000 in
theorem do_2 (w : World) (p : Nat) {S V A X} (t x : Int) (hp : Pool w p S A) (hr : RefS w V X) (hb : Fit A X) :
    Calls Try.prog 12 #[.pointer (some ⟨p, 0, none⟩), V, .agg #[.int .i64 2, .int .i64 t, .int .u64 x]] w (DoOut w p S (A.exit t) (X.exit t) (A.exitE t == X.exitE t)) := by
  have HB := Lib.hid hb
  have HRF := Lib.hid (hr.far hp)
  have HPLT := Lib.hid hp.lt
  have HP : Hid (∀ W, Fr [] w W → Pool W p S A) := Lib.hid (fun W hW => hp.keep hW (by simp))
  have HR : Hid (∀ W, Fr S w W → RefS W V X) := Lib.hid (fun W hW => hr.keep hW (hr.far hp))
  obtain ⟨iv, rv, rfl, h⟩ := hr
  obtain ⟨⟨ia, ic, rfl⟩, ⟨ra, rc, rfl⟩⟩ := h.forms
  unfold refAgg at HR HRF ⊢
  clear h hp hb
  go_enter Try.func12, Try.ntmps12
  go_wp2_with (go_at_call 19; refine (epoch_exit _ p t (HP.out _ (((((Fr.refl [] w).alloc _).alloc _).alloc _))) HB.out.th).mono ?_; rintro e w1 ⟨rfl, hout⟩; refine go_stop ?_)
  obtain ⟨S1, hp1, hf1, hS1⟩ := hout
  obtain ⟨hA, hB, hC, hf⟩ := three_boxes HPLT.out hf1
  obtain ⟨a0, a1, a2, _⟩ := cells3 hA
  obtain ⟨b0, b1, b2, _⟩ := cells3 hB
  have lA := lt_of_block hA
  have lB := lt_of_block hB
  have lC := lt_of_block hC
  have HC1 := Lib.hid hC
  have HF1 := Lib.hid hf
  have HP1 := Lib.hid hp1
  have HS1 := Lib.hid (fun k hk => (hS1 k hk).imp id (fun h => (by simp at h; omega : w.heap.size ≤ k)))
  clear hf1 hS1 hA hB hC hf hp1
  unfold Stop
  go_wp2_with (go_at_call 23; refine (rexit_any _ t (HR.out _ HF1.out) HB.out.inn).mono ?_; rintro e w2 ⟨V2, rfl, hr2, hf2⟩; refine go_stop ?_)
  have hp2 := HP1.out.keep hf2 (by simp)
  have hC2 := hf2.keep HC1.out (by simp)
  obtain ⟨i2, r2, rfl, h2⟩ := hr2
  obtain ⟨⟨j2, c2, rfl⟩, ⟨k2, d2, rfl⟩⟩ := h2.forms
  obtain ⟨q0, q1, q2, qf⟩ := cells3 hC2
  have hf0 := HF1.out.trans hf2 (by simp)
  have lC2 := lt_of_block hC2
  have qf0 := qf 0
  have qf1 := qf 1
  have qf2 := qf 2
  have hR2 : RefS w2 (refAgg (.slice j2 _ c2) (.slice k2 _ d2) _) (X.exit t) := ⟨_, _, rfl, h2⟩
  have HEND := Lib.hid (do_end hp2 hR2 hC2 hf0 HS1.out (by omega))
  have n1 : ¬ w.heap.size + 1 + 1 = w2.heap.size := by omega
  have n2 : ¬ w2.heap.size = w.heap.size + 1 + 1 := by omega
  clear hp2 hC2 h2 hf0 hR2 hf2 qf
  unfold Stop
  unfold refAgg at HEND ⊢
  go_wp2
  refine bodyPost_ret (v := .tuple #[.agg #[.slice j2 (X.exit t).inn.length c2, .int .i64 (X.exit t).ep, .slice k2 (X.exit t).row.length d2], .bool (A.exitE t == X.exitE t)]) (by simp [results, Try.results12, go_sem, *]) rfl ?_
  exact HEND.out _ _ _ _ _

set_option maxHeartbeats 2000000 in
theorem do_4 (w : World) (p : Nat) {S V A X} (t x : Int) (hp : Pool w p S A) (hr : RefS w V X) (hb : Fit A X) :
    Calls Try.prog 12 #[.pointer (some ⟨p, 0, none⟩), V, .agg #[.int .i64 4, .int .i64 t, .int .u64 x]] w (DoOut w p S (A.advance) (X.advance) (A.ready == X.ready)) := by
  have HB := Lib.hid hb
  have HRF := Lib.hid (hr.far hp)
  have HPLT := Lib.hid hp.lt
  have HP : Hid (∀ W, Fr [] w W → Pool W p S A) := Lib.hid (fun W hW => hp.keep hW (by simp))
  have HR : Hid (∀ W, Fr S w W → RefS W V X) := Lib.hid (fun W hW => hr.keep hW (hr.far hp))
  obtain ⟨iv, rv, rfl, h⟩ := hr
  obtain ⟨⟨ia, ic, rfl⟩, ⟨ra, rc, rfl⟩⟩ := h.forms
  unfold refAgg at HR HRF ⊢
  clear h hp hb
  go_enter Try.func12, Try.ntmps12
  go_wp2_with (go_at_call 20; refine (epoch_advance _ p (HP.out _ (((((Fr.refl [] w).alloc _).alloc _).alloc _))) HB.out.th HB.out.row.ep0 HB.out.row.ep1).mono ?_; rintro e w1 ⟨rfl, hout⟩; refine go_stop ?_)
  obtain ⟨S1, hp1, hf1, hS1⟩ := hout
  obtain ⟨hA, hB, hC, hf⟩ := three_boxes HPLT.out hf1
  obtain ⟨a0, a1, a2, _⟩ := cells3 hA
  obtain ⟨b0, b1, b2, _⟩ := cells3 hB
  have lA := lt_of_block hA
  have lB := lt_of_block hB
  have lC := lt_of_block hC
  have HC1 := Lib.hid hC
  have HF1 := Lib.hid hf
  have HP1 := Lib.hid hp1
  have HS1 := Lib.hid (fun k hk => (hS1 k hk).imp id (fun h => (by simp at h; omega : w.heap.size ≤ k)))
  clear hf1 hS1 hA hB hC hf hp1
  unfold Stop
  go_wp2_with (go_at_call 25; refine (radvance_any _ (HR.out _ HF1.out) HB.out.inn HB.out.ep0 HB.out.ep1).mono ?_; rintro e w2 ⟨V2, rfl, hr2, hf2⟩; refine go_stop ?_)
  have hp2 := HP1.out.keep hf2 (by simp)
  have hC2 := hf2.keep HC1.out (by simp)
  obtain ⟨i2, r2, rfl, h2⟩ := hr2
  obtain ⟨⟨j2, c2, rfl⟩, ⟨k2, d2, rfl⟩⟩ := h2.forms
  obtain ⟨q0, q1, q2, qf⟩ := cells3 hC2
  have hf0 := HF1.out.trans hf2 (by simp)
  have lC2 := lt_of_block hC2
  have qf0 := qf 0
  have qf1 := qf 1
  have qf2 := qf 2
  have hR2 : RefS w2 (refAgg (.slice j2 _ c2) (.slice k2 _ d2) _) (X.advance) := ⟨_, _, rfl, h2⟩
  have HEND := Lib.hid (do_end hp2 hR2 hC2 hf0 HS1.out (by omega))
  have n1 : ¬ w.heap.size + 1 + 1 = w2.heap.size := by omega
  have n2 : ¬ w2.heap.size = w.heap.size + 1 + 1 := by omega
  clear hp2 hC2 h2 hf0 hR2 hf2 qf
  unfold Stop
  unfold refAgg at HEND ⊢
  go_wp2
  refine bodyPost_ret (v := .tuple #[.agg #[.slice j2 (X.advance).inn.length c2, .int .i64 (X.advance).ep, .slice k2 (X.advance).row.length d2], .bool (A.ready == X.ready)]) (by simp [results, Try.results12, go_sem, *]) rfl ?_
  exact HEND.out _ _ _ _ _

set_option maxHeartbeats 2000000 in
theorem do_3 (w : World) (p : Nat) {S V A X} (t x : Int) (hp : Pool w p S A) (hr : RefS w V X) (hb : Fit A X) :
    Calls Try.prog 12 #[.pointer (some ⟨p, 0, none⟩), V, .agg #[.int .i64 3, .int .i64 t, .int .u64 x]] w (DoOut w p S (A.retire x) (X.retire x) true) := by
  have HB := Lib.hid hb
  have HRF := Lib.hid (hr.far hp)
  have HPLT := Lib.hid hp.lt
  have HP : Hid (∀ W, Fr [] w W → Pool W p S A) := Lib.hid (fun W hW => hp.keep hW (by simp))
  have HR : Hid (∀ W, Fr S w W → RefS W V X) := Lib.hid (fun W hW => hr.keep hW (hr.far hp))
  obtain ⟨iv, rv, rfl, h⟩ := hr
  obtain ⟨⟨ia, ic, rfl⟩, ⟨ra, rc, rfl⟩⟩ := h.forms
  unfold refAgg at HR HRF ⊢
  clear h hp hb
  go_enter Try.func12, Try.ntmps12
  go_wp2_with (go_at_call 18; refine (epoch_retire _ p x (HP.out _ (((((Fr.refl [] w).alloc _).alloc _).alloc _))) HB.out.row.ep0 HB.out.row.ep1 HB.out.row.len HB.out.row.cnt).mono ?_; rintro e w1 ⟨rfl, hout⟩; refine go_stop ?_)
  obtain ⟨S1, hp1, hf1, hS1⟩ := hout
  obtain ⟨hA, hB, hC, hf⟩ := three_boxes HPLT.out hf1
  obtain ⟨a0, a1, a2, _⟩ := cells3 hA
  obtain ⟨b0, b1, b2, _⟩ := cells3 hB
  have lA := lt_of_block hA
  have lB := lt_of_block hB
  have lC := lt_of_block hC
  have HC1 := Lib.hid hC
  have HF1 := Lib.hid hf
  have HP1 := Lib.hid hp1
  have HS1 := Lib.hid (fun k hk => (hS1 k hk).imp id (fun h => (by simp at h; omega : w.heap.size ≤ k)))
  clear hf1 hS1 hA hB hC hf hp1
  unfold Stop
  go_wp2_with (go_at_call 24; refine (rretire_any _ x (HR.out _ HF1.out) HB.out.rlen).mono ?_; rintro e w2 ⟨V2, rfl, hr2, hf2⟩; refine go_stop ?_)
  have hp2 := HP1.out.keep hf2 (by simp)
  have hC2 := hf2.keep HC1.out (by simp)
  obtain ⟨i2, r2, rfl, h2⟩ := hr2
  obtain ⟨⟨j2, c2, rfl⟩, ⟨k2, d2, rfl⟩⟩ := h2.forms
  obtain ⟨q0, q1, q2, qf⟩ := cells3 hC2
  have hf0 := HF1.out.trans hf2 (by simp)
  have lC2 := lt_of_block hC2
  have qf0 := qf 0
  have qf1 := qf 1
  have qf2 := qf 2
  have hR2 : RefS w2 (refAgg (.slice j2 _ c2) (.slice k2 _ d2) _) (X.retire x) := ⟨_, _, rfl, h2⟩
  have HEND := Lib.hid (do_end0 hp2 hR2 hC2 hf0 HS1.out (by omega))
  clear hp2 hC2 h2 hf0 hR2 hf2 qf
  unfold Stop
  unfold refAgg at HEND ⊢
  go_wp2
  refine bodyPost_ret (v := .tuple #[.agg #[.slice j2 (X.retire x).inn.length c2, .int .i64 (X.retire x).ep, .slice k2 (X.retire x).row.length d2], .bool true]) (by simp [results, Try.results12, go_sem, *]) rfl ?_
  exact HEND.out _ _ _ _
end Go.Proofs.Ytphniphlflijeaa
