/- PACKAGE bst: New -/
import Derived.Test.YthiobdhdefimhaaBsRun
namespace Go.Proofs.Ythiobdhdefimhaa
open Go.RowKit
set_option linter.unusedVariables false
set_option linter.unusedSimpArgs false

def endN : Nd := ⟨false, true, ⟨#[]⟩, 0, 0⟩
def Tr.none (ms : MS) : Tr := ⟨[], [], fun _ => false, ms⟩
def Tr.new (ms : MS) : Tr := (Tr.none ms).join endN endN
set_option maxHeartbeats 4000000 in
theorem bt_plant (A : TA) (ms : MS) (w : World) (h : TreeB w A (Tr.none ms)) (hm : ms.c.length ≤ 65533) :
    Calls Try.prog 25 #[pt A.tb] w fun e w' => e = .returned (.bool true) ∧ ∃ A', TreeAt w' A' (Tr.new ms) ∧ A'.tb = A.tb ∧ A'.mb = A.mb ∧ Fr A.foot w w' ∧ ∀ x ∈ A'.foot, x ∈ A.foot ∨ w.heap.size ≤ x := by
  obtain ⟨wa, hwa⟩ : ∃ wa, wa = w.alloc (.cells (nodV 0 endN) 89) := ⟨_, rfl⟩
  have hfa : Fr [] w wa := by rw [hwa]; exact (Fr.refl [] w).alloc _
  have hnb : wa.heap[w.heap.size]? = some (.cells (nodV 0 endN) 89 (0, 0)) := by rw [hwa]; exact new_block w _
  have HJ : Hid (Calls Try.prog 38 #[pt A.tb, .agg (nodV 0 endN), .agg (nodV 0 endN)] wa (Joined wa A (Tr.none ms) endN endN)) := Lib.hid (nd_join A (Tr.none ms) endN endN 0 0 wa (h.keep0 hfa) (by simp [Tr.none]) (fun o ho => by simp [Tr.none] at ho) hm)
  obtain ⟨y0, y1, y2, y3, y4, y5⟩ := nod_cells hnb
  have HFA := Lib.hid hfa
  have HWA := Lib.hid hwa
  have HM := Lib.hid hm
  have HNL : Hid (A.nb = []) := Lib.hid (List.eq_nil_of_length_eq_zero (by have := h.nlen; simpa [Tr.none] using this))
  clear h hwa hfa hnb hm
  unfold nodV endN at HJ
  unfold endN at y1 y2 y3 y4 y5
  dsimp only at y1 y2 y3 y4 y5 HJ
  go_enter Try.func25, Try.ntmps25
  go_upto_region 2 with fail
  change Code.wp _ _ _ _ (w.alloc (.cells (nodV 0 endN) 89))
  rw [← HWA.out]
  go_wp2_with (go_at_call 38; refine HJ.out.mono ?_; rintro e w2 ⟨A1, rfl, ht, hf, hg, hl⟩; refine go_stop ?_)
  unfold Stop
  obtain ⟨nb, hnb⟩ : ∃ nb, nb = A1.nb.getD ((Tr.none ms).ns.length + 2) 0 := ⟨_, rfl⟩
  have e0 : A1.np ((Tr.none ms).ns.length + 2) = pt nb := by rw [hnb]; rfl
  rw [e0]
  have hb2 := ht.blk
  obtain ⟨_, _, c2, _⟩ := tree_cells ht
  have f2 := free_block hb2 2
  rw [hg.tb] at c2 f2
  obtain ⟨tp, htp⟩ : ∃ v, v = A1.top := ⟨_, rfl⟩
  rw [← htp] at c2
  have hset := set_block hb2 2 (pt nb)
  have hf3 : Fr [A1.tb] w2 (w2.setCell ⟨A1.tb, 2, none⟩ (pt nb)) := (Fr.refl _ w2).setCell (Or.inl (by simp)) _
  have hap := ht.apart
  have hfin : ∃ A', TreeAt (w2.setCell ⟨A1.tb, 2, none⟩ (pt nb)) A' (Tr.new ms) ∧ A'.tb = A.tb ∧ A'.mb = A.mb ∧ Fr A.foot w (w2.setCell ⟨A1.tb, 2, none⟩ (pt nb)) ∧ ∀ x ∈ A'.foot, x ∈ A.foot ∨ w.heap.size ≤ x := by
    have hff3 : Fr A1.foot w2 (w2.setCell ⟨A1.tb, 2, none⟩ (pt nb)) := hf3.mono (by intro k hk; simp at hk; subst hk; exact Or.inl A1.foot_in.1)
    refine ⟨{ A1 with top := pt nb }, ⟨⟨?_, ht.mem.keep hf3 (by simpa using fun e => hap.2.1 e.symm) (fun k hk => by simpa using (hap.2.2.2.1 k hk).1), ownsRow_fr hf3 ht.row (fun k hk => by simpa using (hap.2.2.2.2.1 k hk).1), ht.nlen, fun p b hp => ht.nodK hff3 (ht.nods p b hp), ht.map.keep hf3 (by simpa using fun e => hap.1 e.symm), ht.wlen, fun i b hb => ht.wkK hff3 (ht.wks i b hb)⟩, ⟨by simp [Tr.new, Tr.join, Tr.none], ?_⟩, ?_⟩, hg.tb, hg.mb, ?_, fun x hx => (hg.foot x hx).imp id (fun h => Nat.le_trans HFA.out.size h)⟩
    · have e5 : (Tr.new ms).ws.length = ((Tr.none ms).join ⟨false, true, ⟨#[]⟩, 0, 0⟩ ⟨false, true, ⟨#[]⟩, 0, 0⟩).ws.length := rfl
      unfold treeV at hset ⊢
      rw [e5]
      simpa using hset
    · show 3 ≤ (ms.grow 3).c.length
      unfold MS.grow
      rw [if_pos (by unfold MS.growOk; have := HM.out; simp; omega)]
      simp
    · rw [hnb]; rfl
    · exact ((HFA.out.mono (by simp) : Fr A.foot w wa).trans hf (fun x hx => Or.inl hx)).trans hf3 (fun x hx => by simp at hx; subst hx; rw [hg.tb]; exact Or.inl A.foot_in.1)
  rw [hg.tb] at hfin
  have HFIN := Lib.hid hfin
  clear hfin ht hf hg hl hnb e0 hb2 htp hset hf3 hap y0 y1 y2 y3 y4 y5
  go_wp2
  go_ret
  exact ⟨rfl, HFIN.out⟩
set_option maxHeartbeats 4000000 in
theorem bt_New (mb : Nat) (mv : Value) (ms : MS) (w : World) (h : MemAt w mb mv ms) (hm : ms.c.length ≤ 65533) :
    Calls Try.prog 7 #[pt mb] w fun e w' => ∃ A, e = .returned (pt A.tb) ∧ TreeAt w' A (Tr.new ms) ∧ A.mb = mb ∧ Fr (MemAt.foot mb mv) w w' ∧ ∀ x ∈ A.foot, x ∈ MemAt.foot mb mv ∨ w.heap.size ≤ x := by
  obtain ⟨wa, hwa⟩ : ∃ wa, wa = (w.alloc (.map #[] 0)).alloc (.cells #[pt mb, .slice none 0 0, .pointer none, .map (some w.heap.size), .int .i64 0] 67) := ⟨_, rfl⟩
  have hfa : Fr [] w wa := by rw [hwa]; exact ((Fr.refl [] w).alloc _).alloc _
  obtain ⟨A, hA⟩ : ∃ A : TA, A = ⟨w.heap.size + 1, w.heap.size, mb, mv, .slice none 0 0, [], [], .pointer none⟩ := ⟨_, rfl⟩
  have hb : TreeB wa A (Tr.none ms) := by
    rw [hA]
    refine ⟨?_, h.keep hfa (by simp) (by simp), ⟨rfl, Or.inl ⟨rfl, rfl⟩⟩, rfl, (fun p b hp => by cases hp), ?_, rfl, (fun i b hb => by cases hb)⟩
    · rw [hwa]; exact new_block2 w _ _
    · have h1 := (MapG.made Try.prog 3 intD ptOk w)
      have h2 : MapG Try.prog 3 intD ptOk wa w.heap.size 0 (fun _ => none) := by rw [hwa]; exact h1.keep ((Fr.refl [] _).alloc _) (by simp)
      refine h2.eq (fun z _ => ?_)
      unfold worksG Tr.none
      simp
  have htb : A.tb = w.heap.size + 1 := by rw [hA]
  have HP := bt_plant A ms wa hb hm
  have hfin : ∀ w', (∃ A', TreeAt w' A' (Tr.new ms) ∧ A'.tb = A.tb ∧ A'.mb = A.mb ∧ Fr A.foot wa w' ∧ ∀ x ∈ A'.foot, x ∈ A.foot ∨ wa.heap.size ≤ x) → ∃ A', Ending.returned (pt (w.heap.size + 1)) = .returned (pt A'.tb) ∧ TreeAt w' A' (Tr.new ms) ∧ A'.mb = mb ∧ Fr (MemAt.foot mb mv) w w' ∧ ∀ x ∈ A'.foot, x ∈ MemAt.foot mb mv ∨ w.heap.size ≤ x := by
    rintro w' ⟨A', k1, k2, k3, k4, k5⟩
    have hfoot : ∀ x ∈ A.foot, x ∈ MemAt.foot mb mv ∨ w.heap.size ≤ x := by
      intro x hx
      rw [hA] at hx
      simp [TA.foot, Value.ownBlock] at hx
      rcases hx with rfl | rfl | hx
      · exact Or.inr (by omega)
      · exact Or.inr (Nat.le_refl _)
      · exact Or.inl hx
    exact ⟨A', by rw [k2, htb], k1, by rw [k3, hA], (hfa.mono (by simp)).trans k4 hfoot, fun x hx => (k5 x hx).elim (hfoot x) (fun h => Or.inr (Nat.le_trans hfa.size h))⟩
  rw [htb] at HP hfin
  have HFIN := Lib.hid hfin
  have HPL := Lib.hid HP
  have HWA := Lib.hid hwa
  clear h hm hwa hfa hA hb htb HP hfin
  have hmm := @run_makeMap Try.prog
  go_enter Try.func7, Try.ntmps7
  go_upto_region 2 with fail
  rw [← HWA.out]
  go_wp2_with (go_at_call 25; refine HPL.out.mono ?_; rintro e w2 ⟨rfl, hA'⟩; have HA' := Lib.hid hA'; clear hA')
  go_ret
  exact HFIN.out _ HA'.out
end Go.Proofs.Ythiobdhdefimhaa
