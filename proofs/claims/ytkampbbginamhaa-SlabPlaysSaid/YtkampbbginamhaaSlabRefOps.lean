/- CONTRACTS OF THE DOCUMENT's ANSWERS FOR slab: what changes -/
import Derived.Test.YtkampbbginamhaaSlabRef
namespace Go.Proofs.Ytkampbbginamhaa
open Go.RowKit
set_option linter.unusedVariables false
set_option linter.unusedSimpArgs false

theorem bool_slice : Try.prog.underlying 30 = some (.slice 4) := Try.underlying30
theorem bool_info : (Try.prog.info? 4).map (fun i => (i.zero, i.size, i.bytes)) = some (some (.bool false), 1, 1) := by kernel_rfl
/-- what an answer that changes hands back -/
def RefNext (w : World) (X : Value) (K : Nat) (s : SS) (X' : Value) (w' : World) : Prop := RefS w' X' K s ∧ Fr [] w w' ∧ ∀ j ∈ blks X', j ∈ blks X ∨ w.heap.size ≤ j
def FreedRef (w : World) (X : Value) (K : Nat) (s : SS) (r : Int) (e : Ending) (w' : World) : Prop := ∃ X', e = .returned (.tuple #[X', .int .i64 (s.freeE r)]) ∧ RefNext w X K (s.free r) X' w'

theorem map_set_same {α β : Type} (f : α → β) (l : List α) (j : Nat) (x y : α) (h : l[j]? = some y) (e : f x = f y) : (l.set j x).map f = l.map f := by
  rw [List.map_set, e]
  apply List.ext_getElem?
  intro i
  rw [List.getElem?_set]
  split
  · rename_i hij; subst hij
    have := (List.getElem?_eq_some_iff.1 h).1
    rw [if_pos (by simpa using this), List.getElem?_map, h]; rfl
  · rfl
theorem rfree_any (w : World) (r : Int) {X : Value} {K : Nat} {s : SS} {G : Int} (h : RefS w X K s) (hr : IsW r) (ho : s.Ok G) (hrow : s.row.length ≤ 1000000) :
    Calls Try.prog 29 #[X, .int .u64 r] w (FreedRef w X K s r) := by
  have hn := ho.nrec
  have HX := Lib.hid h
  have HP := Lib.hid (rplace_any r · hr)
  have HH : Hid (∀ W, Fr [] w W → Calls Try.prog 40 #[X, .int .u64 r] W fun e w' => e = .returned (.bool (s.has r)) ∧ Fr [] W w') := Lib.hid (fun W hW => rthere_any W r (h.keep hW (by simp)) hr (by omega))
  obtain ⟨mv, gv, tv, fv, k, rfl, h⟩ := h
  have HS0 := Lib.hid h
  obtain ⟨⟨ma, mc, rfl⟩, ⟨ga, gc, rfl⟩, ⟨ta, tc, rfl⟩, ⟨fa, fc, rfl⟩⟩ := h.forms
  clear h
  unfold refAgg at HH HX ⊢
  by_cases hh : s.has r = true
  · obtain ⟨q, hq, hql, hat⟩ := SS.has_place hh
    have HAT := Lib.hid hat
    clear hat
    have HQ := Lib.hid hq
    have HS := Lib.hid hh
    clear hq hh
    go_enter Try.func29, Try.ntmps29
    go_wp2_with (first | (go_at_call 40; refine (HH.out _ (by exact ((Fr.refl [] w).alloc _).alloc _)).mono ?_; rintro e w1 ⟨rfl, hf⟩; rw [HS.out]; refine go_stop ?_))
    obtain ⟨hA, hB, hf'⟩ := two_boxes hf
    obtain ⟨a0, a1, a2, a3, a4, a5, a6, fa7⟩ := cells7 hA
    obtain ⟨b0, b1, b2, b3, b4, b5, b6, fb7⟩ := cells7 hB
    have hw1 : w.heap.size + 1 < w1.heap.size := lt_of_block hB
    have hw0 : w.heap.size < w1.heap.size := by omega
    have hw0a : w.heap.size < w1.heap.size + 1 := by omega
    have hw1a : w.heap.size + 1 < w1.heap.size + 1 := by omega
    have HF := Lib.hid hf'
    have HA := Lib.hid hA
    have HB := Lib.hid hB
    clear hf hf' hA hB
    unfold Stop
    go_wp2_with (first | (go_at_call 25; refine (HP.out _).mono ?_; rintro e w2 ⟨rfl, rfl⟩; rw [← HQ.out]) | (at_builtin; refine wpList_append_any rfl (.tmp 16) (.tmp 18) 30 4 (.bool false) 1 1 rfl bool_slice bool_info rfl (by decide) _ 0 [] rfl (lies_empty _ _ _ _ (by simp)) _ s.recs.length (s.recs.map fun r => Value.bool r.2) rfl ?src (one_bools (fun r : Int × Bool => r.2) _) (by unfold maxLen; omega) (by omega) ?app))
    case src => exact HS0.out.taken.keep ((HF.out.alloc _).alloc _) (by simp)
    case app =>
    intro tv' w3 hown hfr hat
    have hown : Lies w3 4 1 tv' s.recs.length (s.recs.map fun r => Value.bool r.2) := by simpa using hown
    obtain ⟨tg, to', tc', rfl, htg, htc, hcells⟩ := hown.here (by omega)
    have htg1 : w1.heap.size < tg := by
      rcases hat tg rfl with h | h
      · first | omega | (simp [Value.ownBlock] at h; omega)
      · first | omega | (simp at h; omega)
    have hA := hfr.keep (blk_alloc (blk_alloc HA.out _) _) (by simp [Value.ownBlock]; omega)
    have hB := hfr.keep (blk_alloc (blk_alloc HB.out _) _) (by simp [Value.ownBlock]; omega)
    have hC := hfr.keep (blk_new2 w1 _ _) (by simp [Value.ownBlock])
    have hF3 : Fr [] w w3 := ((HF.out.alloc _).alloc _).trans hfr (by intro k hk; simp [Value.ownBlock] at hk; exact Or.inr (by omega))
    obtain ⟨tq, tf⟩ := hcells q (by omega)
    rw [List.getElem?_eq_getElem (by simp; omega)] at tq
    obtain ⟨z, hz⟩ : ∃ z, z = (s.recs.map fun r => Value.bool r.2)[q]'(by simp; omega) := ⟨_, rfl⟩
    rw [← hz] at tq
    obtain ⟨a0, a1, a2, a3, a4, a5, a6, fa7⟩ := cells7 hA
    obtain ⟨b0, b1, b2, b3, b4, b5, b6, fb7⟩ := cells7 hB
    obtain ⟨c0, c1, c2, c3, c4, c5, c6, fc7⟩ := cells7 hC
    have n1 : ¬ tg = w1.heap.size := by omega
    have n2 : ¬ tg = w.heap.size := by omega
    have n3 : ¬ tg = w.heap.size + 1 := by omega
    have n4 : ¬ w.heap.size = w1.heap.size := by omega
    have n5 : ¬ w.heap.size + 1 = w1.heap.size := by omega
    have n6 : ¬ w1.heap.size = tg := by omega
    have l1 : w1.heap.size < w3.heap.size := by omega
    have l2 : w.heap.size < w3.heap.size := by omega
    have l3 : w.heap.size + 1 < w3.heap.size := by omega
    have HOWN := Lib.hid hown
    have HF3 := Lib.hid hF3
    have HA3 := Lib.hid hA
    have HB3 := Lib.hid hB
    have HC3 := Lib.hid hC
    clear hown hfr hat hA hB hC hF3 hcells hz
    go_wp2_with (at_builtin; refine wpList_append_any rfl (.tmp 25) (.tmp 27) 29 3 (.int .i64 0) 1 8 rfl int_slice int_info rfl (by decide) _ 0 [] rfl (lies_empty _ _ _ _ (by simp)) _ s.row.length (s.row.map fun (q : Nat) => Value.int .i64 q) rfl ?src (one_ints .i64 (fun (q : Nat) => (q : Int)) _) (by unfold maxLen; omega) (by omega) ?app)
    case src => exact HS0.out.free.keep (((HF3.out.setNew (by omega) _).setNew (by omega) _).alloc _) (by simp)
    case app =>
    intro fv1 w4 hown hfr hat
    have hown : Lies w4 3 1 fv1 s.row.length (s.row.map fun (q : Nat) => Value.int .i64 q) := by simpa using hown
    have hfv1 : ∀ j, fv1.ownBlock = some j → w3.heap.size ≤ j := by
      intro j hj
      rcases hat j hj with h | h
      · first | omega | (simp [Value.ownBlock] at h; omega)
      · first | omega | (simp at h; omega)
    have hn4 : ∀ j, j < w3.heap.size → j ∉ (Value.slice (some ⟨w3.heap.size, 0, none⟩) 0 0).ownBlock.toList := by intro j hj; simp [Value.ownBlock]; omega
    have hB := hfr.keep (blk_alloc (set_other (set_other HB3.out n5 5 _) (by omega) (to' + q) _) _) (hn4 _ l3)
    have hC := hfr.keep (blk_alloc (set_other (set_block HC3.out 5 (.slice (some ⟨tg, to', none⟩) s.recs.length tc')) n6 (to' + q) (.bool false)) _) (hn4 _ l1)
    have hT := (((HOWN.out.other ⟨w1.heap.size, 5, none⟩ (by simp [Value.ownBlock]; omega) (.slice (some ⟨tg, to', none⟩) s.recs.length tc')).set q (.bool false)).alloc (.cells #[] 3)).keep hfr (by intro j hj; simp [Value.ownBlock] at hj; exact hn4 _ (by omega))
    have hF4 : Fr [] w w4 := (((HF3.out.setNew (o := 5) (by omega) _).setNew (by omega) _).alloc _).trans hfr (by intro k hk; simp [Value.ownBlock] at hk; exact Or.inr (by omega))
    have hs4 : w3.heap.size < w4.heap.size := by have := hfr.size; simp at this; omega
    have HOWN4 := Lib.hid hown
    have HF4 := Lib.hid hF4
    have HB4 := Lib.hid hB
    have HC4 := Lib.hid hC
    have HT4 := Lib.hid hT
    have HFV1 := Lib.hid hfv1
    clear hown hfr hat hB hC hT hF4 hfv1 hn4 a0 a1 a2 a3 a4 a5 a6 fa7 b0 b1 b2 b3 b4 b5 b6 fb7 c0 c1 c2 c3 c4 c5 c6 fc7 tq tf
    go_wp2_with (at_builtin; refine wpList_append_any rfl (.tmp 28) (.tmp 30) 29 3 (.int .i64 0) 1 8 rfl int_slice int_info rfl (by decide) fv1 s.row.length (s.row.map fun (q : Nat) => Value.int .i64 q) rfl ?own _ 1 [.int .i64 q] rfl ?src (one_int _ _) (by unfold maxLen; omega) (by omega) ?app)
    case own => exact HOWN4.out.alloc _
    case src => exact lies_one _ _ _ _ (by simp)
    case app =>
    intro fv2 w5 hown hfr hat
    have hown : Lies w5 3 1 fv2 (s.row.length + 1) ((s.row ++ [q]).map fun (q : Nat) => Value.int .i64 q) := by simpa using hown
    have hfv2 : ∀ j, fv2.ownBlock = some j → w3.heap.size ≤ j := by
      intro j hj
      rcases hat j hj with h | h
      · exact HFV1.out j h
      · first | omega | (simp at h; omega)
    have hn5 : ∀ j, j < w3.heap.size → j ∉ fv1.ownBlock.toList := by intro j hj hm; simp at hm; have := HFV1.out j hm; omega
    have hB := hfr.keep (blk_alloc HB4.out _) (hn5 _ l3)
    have hC := hfr.keep (blk_alloc HC4.out _) (hn5 _ l1)
    have hT := (HT4.out.alloc (.cells #[.int .i64 q] 3)).keep hfr (by intro j hj; simp [Value.ownBlock] at hj; exact hn5 _ (by omega))
    have hF5 : Fr [] w w5 := (HF4.out.alloc _).trans hfr (by intro k hk; simp at hk; have := HFV1.out k hk; exact Or.inr (by omega))
    obtain ⟨b0, b1, b2, b3, b4, b5, b6, fb7⟩ := cells7 hB
    simp at hC
    obtain ⟨c0, c1, c2, c3, c4, c5, c6, fc7⟩ := cells7 hC
    have hnew : ∀ u0 u1 u2 u3 u4 u5 u6 u7, RefNext w (refAgg (.slice ma s.c.length mc) (.slice ga s.recs.length gc) (.slice ta s.recs.length tc) (.slice fa s.row.length fc) k s) K (s.free r)
        (.agg #[.slice ma s.c.length mc, .int .i64 k, .int .i64 s.first, .int .i64 s.words, .slice ga s.recs.length gc, .slice (some ⟨tg, to', none⟩) s.recs.length tc', fv2])
        ((((((((w5.setCell ⟨w1.heap.size, 6, none⟩ u0).setCell ⟨w.heap.size + 1, 0, none⟩ u1).setCell ⟨w.heap.size + 1, 1, none⟩ u2).setCell ⟨w.heap.size + 1, 2, none⟩ u3).setCell ⟨w.heap.size + 1, 3, none⟩ u4).setCell ⟨w.heap.size + 1, 4, none⟩ u5).setCell ⟨w.heap.size + 1, 5, none⟩ u6).setCell ⟨w.heap.size + 1, 6, none⟩ u7) := by
      intro u0 u1 u2 u3 u4 u5 u6 u7
      have hs : s.free r = { s with recs := s.recs.set q (gnr r, false), row := s.row ++ [q] } := by
        rw [SS.free, HS.out, if_pos rfl, ← HQ.out, Int.toNat_natCast]
      have hFin : ∀ S, w1.heap.size ∈ S → w.heap.size + 1 ∈ S → Fr S w5 ((((((((w5.setCell ⟨w1.heap.size, 6, none⟩ u0).setCell ⟨w.heap.size + 1, 0, none⟩ u1).setCell ⟨w.heap.size + 1, 1, none⟩ u2).setCell ⟨w.heap.size + 1, 2, none⟩ u3).setCell ⟨w.heap.size + 1, 3, none⟩ u4).setCell ⟨w.heap.size + 1, 4, none⟩ u5).setCell ⟨w.heap.size + 1, 5, none⟩ u6).setCell ⟨w.heap.size + 1, 6, none⟩ u7) := fun S h1 h2 =>
        (((((((Fr.refl S w5).setCell (Or.inl h1) u0).setCell (Or.inl h2) u1).setCell (Or.inl h2) u2).setCell (Or.inl h2) u3).setCell (Or.inl h2) u4).setCell (Or.inl h2) u5).setCell (Or.inl h2) u6 |>.setCell (Or.inl h2) u7
      have hF5' := hF5.trans (hFin [w1.heap.size, w.heap.size + 1] (by simp) (by simp)) (by intro k hk; simp at hk; exact Or.inr (by omega))
      have hh := HS0.out
      rw [hs]
      refine ⟨⟨_, _, _, _, k, rfl, ?_⟩, hF5', ?_⟩
      · refine ⟨hh.cells.keep hF5' (by simp), ?_, ?_, ?_, hh.k0, hh.kK⟩
        · have := hh.gens.keep hF5' (by simp)
          simp only [List.length_set]
          rw [map_set_same (fun r : Int × Bool => Value.int .i64 r.1) s.recs q (gnr r, false) (gnr r, true) HAT.out rfl]
          exact this
        · have := hT.keep (hFin [w1.heap.size, w.heap.size + 1] (by simp) (by simp)) (by intro j hj; simp [Value.ownBlock] at hj; simp; omega)
          simpa [List.map_set] using this
        · have := hown.keep (hFin [w1.heap.size, w.heap.size + 1] (by simp) (by simp)) (by intro j hj; have := hfv2 j hj; simp; omega)
          simpa using this
      · intro j hj
        have hj := (blks_refAgg (.slice ma s.c.length mc) (.slice ga s.recs.length gc) (.slice (some ⟨tg, to', none⟩) s.recs.length tc') fv2 k s j).1 hj
        rw [blks_refAgg]
        rcases hj with h | h | h | h
        · exact Or.inl (Or.inl h)
        · exact Or.inl (Or.inr (Or.inl h))
        · simp [Value.ownBlock] at h; exact Or.inr (by omega)
        · have := hfv2 j h; exact Or.inr (by omega)
    have HNEW := Lib.hid hnew
    obtain ⟨fs, fc2, rfl, _⟩ := hown.form
    have m1 : ¬ w1.heap.size = w.heap.size + 1 := by omega
    clear hown hfr hat hB hC hT hF5 hfv2 hn5 hnew
    go_wp2
    refine bodyPost_ret (v := .tuple #[.agg #[.slice ma s.c.length mc, .int .i64 k, .int .i64 s.first, .int .i64 s.words, .slice ga s.recs.length gc, .slice (some ⟨tg, to', none⟩) s.recs.length tc', .slice fs (s.row.length + 1) fc2], .int .i64 0]) (by simp [results, Try.results29, go_sem, *]) rfl ⟨_, by rw [SS.freeE, HS.out]; rfl, ?_⟩
    exact HNEW.out _ _ _ _ _ _ _ _
  · have hh : s.has r = false := by simpa using hh
    have HS := Lib.hid hh
    clear hh
    go_enter Try.func29, Try.ntmps29
    go_wp2_with (first | (go_at_call 40; refine (HH.out _ (by exact ((Fr.refl [] w).alloc _).alloc _)).mono ?_; rintro e w1 ⟨rfl, hf⟩; rw [HS.out]; refine go_stop ?_))
    obtain ⟨hA, hB, hf'⟩ := two_boxes hf
    obtain ⟨a0, a1, a2, a3, a4, a5, a6, fa7⟩ := cells7 hA
    obtain ⟨b0, b1, b2, b3, b4, b5, b6, fb7⟩ := cells7 hB
    have HF := Lib.hid hf'
    clear hf hf' hA hB
    unfold Stop
    go_wp2
    refine bodyPost_ret (v := .tuple #[.agg #[.slice ma s.c.length mc, .int .i64 k, .int .i64 s.first, .int .i64 s.words, .slice ga s.recs.length gc, .slice ta s.recs.length tc, .slice fa s.row.length fc], .int .i64 4]) (by simp [results, Try.results29, go_sem, *]) rfl ⟨_, by rw [SS.freeE, HS.out]; rfl, ?_⟩
    rw [SS.free, HS.out]
    exact ⟨HX.out.keep (HF.out.set7 (by omega) _ _ _ _ _ _ _) (by simp), HF.out.set7 (by omega) _ _ _ _ _ _ _, fun j hj => Or.inl hj⟩
end Go.Proofs.Ytkampbbginamhaa
