/- PACKAGE bst: start: a work that is begun -/
import Derived.Test.YthiobdhdefimhaaBsJoin
namespace Go.Proofs.Ythiobdhdefimhaa
open Go.RowKit
set_option linter.unusedVariables false
set_option linter.unusedSimpArgs false

theorem i64_key : Try.prog.underlying 3 = some (.int .i64) := Try.underlying3
theorem wk_map : Try.prog.underlying 61 = some (.map 3 108) := Try.underlying61
theorem KI : KeyT Try.prog 3 intD := intT i64_key
theorem KI_ok {z : Int} (h0 : -2000000000 ≤ z) (h1 : z ≤ 2000000000) : intD.ok z := WalkArith.wf_i64 (by omega)
def TA.work (A : TA) (b : Nat) : TA := { A with wb := A.wb ++ [b] }
theorem worksG_start (A : TA) (t : Tr) (o : Wk) (b : Nat) (hl : A.wb.length = t.ws.length) (hv : ∀ i, t.live i = true → i ≤ t.ws.length) :
    ∀ z : Int, intD.ok z → worksG (A.work b) (t.start o) z = if z = (t.ws.length : Int) + 1 then some (pt b) else worksG A t z := by
  intro z _
  unfold worksG Tr.start
  dsimp only
  by_cases e : z = (t.ws.length : Int) + 1
  · subst e
    have : ((t.ws.length : Int) + 1).toNat = t.ws.length + 1 := by omega
    rw [if_pos rfl, this]
    simp only [if_true, and_true]
    rw [if_pos (by omega)]
    unfold TA.wp TA.work
    simp [List.getD_eq_getElem?_getD, ← hl]
  · rw [if_neg e]
    by_cases h0 : 0 < z
    · have hz : z.toNat ≠ t.ws.length + 1 := by omega
      simp only [if_neg hz]
      by_cases hv2 : t.live z.toNat = true
      · rw [if_pos ⟨h0, hv2⟩, if_pos ⟨h0, hv2⟩]
        have := hv _ hv2
        unfold TA.wp TA.work
        simp only [List.getD_eq_getElem?_getD]
        rw [List.getElem?_append_left (by omega)]
      · rw [if_neg (fun h => hv2 h.2), if_neg (fun h => hv2 h.2)]
    · rw [if_neg (fun h => h0 h.1), if_neg (fun h => h0 h.1)]
theorem np_work (A : TA) (b p : Nat) : (A.work b).np p = A.np p := rfl
theorem wkV_work (A : TA) (b i : Nat) (o : Wk) : wkV (A.work b) i o = wkV A i o := rfl
theorem Tr.wk_start (t : Tr) (o : Wk) : (t.start o).wk (t.ws.length + 1) = o := by unfold Tr.wk Tr.start; simp [List.getD_eq_getElem?_getD]
theorem Tr.wk_old (t : Tr) (o : Wk) (i : Nat) (hi : i < t.ws.length) : (t.start o).wk (i + 1) = t.wk (i + 1) := by
  unfold Tr.wk Tr.start; simp [List.getD_eq_getElem?_getD, List.getElem?_append_left hi]
/-- a tree whose last work is this, in memory -/
theorem TreeAt.started {w w1 w' : World} {A : TA} {t : Tr} {o : Wk} {b : Nat} (h : TreeAt w A t) (hb : w.heap[b]? = some (.cells (wkV A (t.ws.length + 1) o) 114 (0, 0))) (hv : ∀ i, t.live i = true → i ≤ t.ws.length)
    (h1 : w1 = w.setCell ⟨A.tb, 4, none⟩ (.int .i64 ((t.ws.length : Int) + 1))) (hm : MapG Try.prog 3 intD ptOk w' A.mp (t.ws.length + 1) (fun z => if z = (t.ws.length : Int) + 1 then some (pt b) else worksG A t z)) (hf : Fr [A.mp] w1 w') :
    TreeAt w' (A.work b) (t.start o) ∧ Fr A.foot w w' ∧ w'.heap[b]? = some (.cells (wkV A (t.ws.length + 1) o) 114 (0, 0)) := by
  obtain ⟨a1, a2, a3, a4, a5, a6⟩ := h.apart
  have hf1 : Fr [A.tb] w w1 := by rw [h1]; exact (Fr.refl _ _).setCell (Or.inl (by simp)) _
  have hf2 : Fr [A.tb, A.mp] w w' := (hf1.mono (by intro k hk; exact Or.inl (by simp at hk ⊢; exact Or.inl hk))).trans hf (by intro k hk; exact Or.inl (by simp at hk ⊢; exact Or.inr hk))
  have hff : Fr A.foot w w' := hf2.mono (by intro k hk; simp at hk; rcases hk with rfl | rfl; exact Or.inl A.foot_in.1; exact Or.inl A.foot_in.2.1)
  have hbl : w1.heap[A.tb]? = some (.cells (treeV (A.work b) (t.start o)) 67 (0, 0)) := by
    rw [h1]; simpa [treeV, TA.work, Tr.start] using set_block h.blk 4 (.int .i64 ((t.ws.length : Int) + 1))
  have hbk := h.toTreeB.wkK hff (A' := A) (o := o) (i := t.ws.length + 1) hb
  refine ⟨⟨⟨hf.keep hbl (by simpa [TA.work] using a1), ?_, ?_, h.nlen, fun p c hp => h.toTreeB.nodK hff (h.nods p c hp), ?_, ?_, ?_⟩, h.lo, h.top⟩, hff, hbk⟩
  · exact h.mem.keep hf2 (by simp; exact ⟨fun e => a2 e.symm, fun e => a3 e.symm⟩) (fun k hk => by simp; exact ⟨(a4 k hk).1, (a4 k hk).2.1⟩)
  · exact ownsRow_fr hf2 h.row (fun k hk => by simp; exact ⟨(a5 k hk).1, (a5 k hk).2.1⟩)
  · have := hm.eq (worksG_start A t o b h.wlen hv)
    simpa [Tr.start, TA.work] using this
  · simp [TA.work, Tr.start, h.wlen]
  · intro i c hc
    simp only [TA.work] at hc
    rcases Nat.lt_or_ge i A.wb.length with hi | hi
    · rw [List.getElem?_append_left hi] at hc
      rw [Tr.wk_old _ _ _ (by rw [← h.wlen]; exact hi)]
      exact h.toTreeB.wkK hff (h.wks i c hc)
    · rw [List.getElem?_append_right hi] at hc
      have hi0 : i - A.wb.length = 0 := by
        rcases Nat.eq_zero_or_pos (i - A.wb.length) with h | h
        · exact h
        · rw [List.getElem?_eq_none (by simp; omega)] at hc; cases hc
      rw [hi0] at hc
      simp at hc
      subst hc
      have : i = t.ws.length := by have := h.wlen; omega
      subst this
      rw [Tr.wk_start]
      exact hbk
theorem TreeAt.keepW {w w' : World} {A : TA} {t : Tr} {b : Nat} {cur : Array Value} (h : TreeAt w A t) (hf : Fr [b] w w') (hb : w.heap[b]? = some (.cells cur 114 (0, 0))) (hw : b ∉ A.wb) : TreeAt w' A t := by
  have hbout : b ∉ A.foot := fun hm => absurd (h.toTreeB.ty _ hm _ _ _ hb) (by decide)
  obtain ⟨f1, f2, f3, f4, f5⟩ := A.foot_in
  have ne : ∀ k ∈ A.foot, k ∉ [b] := fun k hk hm => by simp only [List.mem_singleton] at hm; subst hm; exact hbout hk
  refine ⟨⟨hf.keep h.blk (ne _ f1), h.mem.keep hf (ne _ f3) (fun k hk => ne _ (f4 k hk)), ownsRow_fr hf h.row (fun k hk => ne _ (f5 k hk)), h.nlen, fun p c hp => hf.keep (h.nods p c hp) ?_, h.map.keep hf (ne _ f2), h.wlen, fun i c hc => hf.keep (h.wks i c hc) ?_⟩, h.lo, h.top⟩
  · intro hm
    simp only [List.mem_singleton] at hm
    subst hm
    have h1 := h.nods p c hp
    unfold NodB at h1
    rw [hb] at h1; simp only [Option.some.injEq, Obj.cells.injEq] at h1; exact absurd h1.2.1 (by decide)
  · intro hm
    simp only [List.mem_singleton] at hm
    subst hm
    exact hw (List.mem_of_getElem? hc)
/-- what start leaves -/
def Started (w : World) (A : TA) (t : Tr) (o : Wk) (b : Nat) (seen : Int) (e : Ending) (w' : World) : Prop :=
  e = .returned (.tuple #[.int .u64 (t.ms.at (t.word o.at_)), .bool (t.ms.casB (t.word o.at_) seen)]) ∧ w'.heap[b]? = some (.cells (wkV A (t.ws.length + 1) o) 114 (0, 0)) ∧
  TreeAt w' (if t.ms.casB (t.word o.at_) seen then A.work b else A) (t.begin o seen) ∧ Fr (b :: A.foot) w w'
set_option maxHeartbeats 4000000 in
theorem nd_start (A : TA) (t : Tr) (o : Wk) (b i0 : Nat) (seen : Int) (w : World) (h : TreeAt w A t) (hl : t.ms.c.length ≤ 65536) (hn : t.ms.n ≤ 1000000000000) (hb : w.heap[b]? = some (.cells (wkV A i0 o) 114 (0, 0)))
    (ha : o.at_ < t.ns.length) (hc : 0 ≤ (t.nd o.at_).cell ∧ (t.nd o.at_).cell ≤ 65536) (hv : ∀ i, t.live i = true → i ≤ t.ws.length) (hw : t.ws.length ≤ 1000000000) (hbw : b ∉ A.wb) :
    Calls Try.prog 57 #[pt A.tb, pt b, .int .u64 seen] w (Started w A t o b seen) := by
  obtain ⟨bn, hn1, hn2⟩ := h.node ha
  have hbout : b ∉ A.foot := fun hm => absurd (h.toTreeB.ty _ hm _ _ _ hb) (by decide)
  obtain ⟨w1, hw1⟩ : ∃ w1, w1 = w.setCell ⟨b, 0, none⟩ (.int .i64 ((t.ws.length : Int) + 1)) := ⟨_, rfl⟩
  have hf1 : Fr [b] w w1 := by rw [hw1]; exact (Fr.refl _ _).setCell (Or.inl (by simp)) _
  have hb1 : w1.heap[b]? = some (.cells (wkV A (t.ws.length + 1) o) 114 (0, 0)) := by
    rw [hw1]; simpa [wkV] using set_block hb 0 (.int .i64 ((t.ws.length : Int) + 1))
  have hbn : bn ≠ b := by
    rintro rfl
    unfold NodB at hn2
    rw [hb] at hn2; simp only [Option.some.injEq, Obj.cells.injEq] at hn2; exact absurd hn2.2.1 (by decide)
  have hnd1 : NodB w1 bn o.at_ (t.nd o.at_) := hf1.keep hn2 (by simpa using hbn)
  have ht1 : TreeAt w1 A t := h.keepW hf1 hb hbw
  have htlt := h.toTreeB.lt _ A.foot_in.1
  have hblt := lt_of_block hb
  have n1 : ¬ b = A.tb := fun e => hbout (by rw [e]; exact A.foot_in.1)
  have n2 : ¬ A.tb = b := fun e => n1 e.symm
  obtain ⟨q0, q1, q2, q3, q4⟩ := tree_cells h.toTreeB
  obtain ⟨z0, z1, z2, z3, z4, z5, z6⟩ := cells7 (by unfold wkV at hb; exact hb)
  have g0 := free_block hb 0
  have HNP := Lib.hid hn1
  have hz3 := z3
  rw [hn1] at z3
  have e4 : IntKind.i64.wrap ((t.ws.length : Int) + 1) = t.ws.length + 1 := IntWalk.i64_in _ (by omega)
  have l0 : (0 : Int) ≤ t.ws.length := by omega
  have l1 : (t.ws.length : Int) ≤ 1000000000 := by omega
  have HWD : Hid (∀ W, NodB W bn o.at_ (t.nd o.at_) → Calls Try.prog 79 #[pt bn] W fun e w' => e = .returned (.int .i64 (t.word o.at_)) ∧ W = w') := Lib.hid fun W hW => nd_word _ _ _ _ hW hc.1 hc.2
  have HWW : Hid (∀ W, WkB W A b (t.ws.length + 1) o → Calls Try.prog 80 #[pt b, .int .i64 o.state] W fun e w' => e = .returned (.int .u64 (packW o.state (t.ws.length + 1))) ∧ W = w') := Lib.hid fun W hW => wk_word A b _ o o.state W hW
  have HCS : Hid (∀ W, TreeAt W A t → Calls Try.prog 78 #[pt A.mb, .int .i64 (t.word o.at_), .int .u64 seen, .int .u64 (packW o.state (t.ws.length + 1))] W fun e w' => e = .returned (.tuple #[.int .u64 (t.ms.at (t.word o.at_)), .bool (t.ms.casB (t.word o.at_) seen)]) ∧ TreeAt w' A (t.cas (t.word o.at_) seen (packW o.state (t.ws.length + 1))) ∧ Fr A.foot W w') := Lib.hid fun W hW => hW.casd hl hn _ _ _
  have hbeg : t.begin o seen = if t.ms.casB (t.word o.at_) seen then (t.cas (t.word o.at_) seen (packW o.state (t.ws.length + 1))).start o else t.cas (t.word o.at_) seen (packW o.state (t.ws.length + 1)) := rfl
  unfold Started
  rw [hbeg]
  obtain ⟨WD, hWD⟩ : ∃ a, a = t.word o.at_ := ⟨_, rfl⟩
  obtain ⟨PK, hPK⟩ : ∃ a, a = packW o.state (t.ws.length + 1) := ⟨_, rfl⟩
  rw [← hWD, ← hPK] at HCS
  rw [← hWD] at HWD
  rw [← hPK] at HWW
  rw [← hWD, ← hPK]
  obtain ⟨WAS, hWAS⟩ : ∃ a, a = t.ms.at WD := ⟨_, rfl⟩
  obtain ⟨OK, hOK⟩ : ∃ a, a = t.ms.casB WD seen := ⟨_, rfl⟩
  obtain ⟨t2, ht2⟩ : ∃ a, a = t.cas WD seen PK := ⟨_, rfl⟩
  rw [← hWAS, ← hOK, ← ht2] at HCS
  rw [← hWAS, ← hOK, ← ht2]
  have HT2E : Hid (t2.ws.length = t.ws.length ∧ ∀ i, t2.live i = true → i ≤ t2.ws.length) := Lib.hid (by rw [ht2]; exact ⟨rfl, hv⟩)
  have HT1 := Lib.hid ht1
  have HB1 : Hid (WkB w1 A b (t.ws.length + 1) o) := Lib.hid hb1
  have HN1 := Lib.hid hnd1
  have HF1 := Lib.hid hf1
  have HW1 := Lib.hid hw1
  have HBO := Lib.hid hbout
  clear h hb ha hc hv hw hbw hn1 hn2 hbout hw1 hf1 hb1 hbn hnd1 ht1 htlt hblt hz3 hbeg hWD hPK hWAS hOK ht2 q0 q1 q2 q3 z1 z2 z3 z4 z5 z6
  go_enter Try.func57, Try.ntmps57
  go_upto_region 2 with fail
  rw [← HW1.out]
  clear z0 g0 q4
  obtain ⟨q0, q1, q2, q3, q4⟩ := tree_cells HT1.out.toTreeB
  obtain ⟨z0, z1, z2, z3, z4, z5, z6⟩ := wk_cells HB1.out
  rw [HNP.out] at z3
  clear z2 z4 z5 z6
  go_region_held3 (fun W => W.cell? ⟨A.tb, 0, none⟩ = some (pt A.mb) ∧ W.cell? ⟨b, 1, none⟩ = some (.int .i64 o.state) ∧ W.cell? ⟨b, 3, none⟩ = some (pt bn)) (go_keep)
    (first
      | (go_at_call 79; refine (HWD.out _ ((Fr.refl [] w1).drew.keep HN1.out (by simp))).mono ?_; rintro e w4 ⟨rfl, rfl⟩)
      | (go_at_call 80; refine (HWW.out _ ((Fr.refl [] w1).drew.keep HB1.out (by simp))).mono ?_; rintro e w4 ⟨rfl, rfl⟩)
      | (go_at_call 78; refine (HCS.out _ HT1.out.drew).mono ?_; rintro e w4 ⟨rfl, ht4, hf4⟩
         have HT4 := Lib.hid ht4
         have HB4 : Hid (WkB w4 A b (t.ws.length + 1) o) := Lib.hid (hf4.keep ((Fr.refl [] w1).drew.keep HB1.out (by simp)) HBO.out)
         have HF4 := Lib.hid (Fr.trans (T := A.foot) (HF1.out.mono (by simp) : Fr (b :: A.foot) w w1) ((Fr.refl A.foot w1).drew.trans hf4 (fun x hx => Or.inl hx)) (fun x hx => Or.inl (List.mem_cons_of_mem _ hx)))
         obtain ⟨q0, q1, q2, q3, q4⟩ := tree_cells ht4.toTreeB
         obtain ⟨z0, z1, _, z3, _, _, _⟩ := wk_cells HB4.out
         rw [HNP.out] at z3
         clear ht4 hf4))
  have ec : ((t.ws.length + 1 : Nat) : Int) = t.ws.length + 1 := by omega
  rw [ec] at z0
  cases OK
  · go_wp2
    go_ret2
    exact ⟨rfl, HB4.out, HT4.out, HF4.out⟩
  · have g4 := free_block HT4.out.blk 4
    obtain ⟨w5, hw5⟩ : ∃ w5, w5 = w4.setCell ⟨A.tb, 4, none⟩ (.int .i64 ((t.ws.length : Int) + 1)) := ⟨_, rfl⟩
    have HW5 := Lib.hid hw5
    have hap := HT4.out.apart
    have hf5 : Fr [A.tb] w4 w5 := by rw [hw5]; exact (Fr.refl _ _).setCell (Or.inl (by simp)) _
    have hmap5 := HT4.out.map.keep hf5 (by simp; exact fun e => hap.1 e.symm)
    have hb5 : WkB w5 A b (t.ws.length + 1) o := hf5.keep HB4.out (by simp; exact n1)
    have hblk5 := set_block HT4.out.blk 4 (.int .i64 ((t.ws.length : Int) + 1))
    rw [← hw5] at hblk5
    have k3 := cell_block hblk5 3
    simp [treeV] at k3
    obtain ⟨b0', _⟩ := wk_cells hb5
    rw [ec] at b0'
    obtain ⟨w6, hst, hm6, hf6⟩ := MapG.store KI (hmap5.keep (Fr.refl [] w5).drew (by simp)) wk_map (n := t2.ws.length) (by have := HT2E.out.1; unfold maxLen; omega) (e := (t.ws.length : Int) + 1) (KI_ok (by omega) (by omega)) (x := pt b) rfl
    have hend := HT4.out.started (b := b) (o := o) (w1 := w5) (w' := w6) (by have := HB4.out; unfold WkB at this; rw [HT2E.out.1]; exact this) HT2E.out.2 (by rw [HT2E.out.1]; exact hw5) (by rw [← HT2E.out.1] at hm6; exact hm6) ((Fr.refl [A.mp] w5).drew.trans hf6 (fun x hx => Or.inl hx))
    have HEND := Lib.hid hend
    rw [HT2E.out.1] at HEND
    simp only [intD] at hst
    clear hw5 hmap5 hf5 hb5 hblk5 hm6 hf6 hend hap
    go_upto_region 5 with fail
    rw [← HW5.out]
    clear q0 q1 q2 q3 q4 z0 z1 z3 g4
    go_region
    go_wp2
    go_ret2
    exact ⟨rfl, HEND.out.2.2, HEND.out.1, HF4.out.trans HEND.out.2.1 (fun x hx => Or.inl (List.mem_cons_of_mem _ hx))⟩
end Go.Proofs.Ythiobdhdefimhaa
