/- PACKAGE bst: a child turned; room; nodes that are made -/
import Derived.Test.YthiobdhdefimhaaBsTree
namespace Go.Proofs.Ythiobdhdefimhaa
open Go.RowKit
set_option linter.unusedVariables false
set_option linter.unusedSimpArgs false

theorem nd_room (A : TA) (t : Tr) (w : World) (h : TreeAt w A t) (hl : t.ms.c.length ≤ 65536) :
    Calls Try.prog 52 #[pt A.tb] w fun e w' => e = .returned (.bool t.room) ∧ w = w' := by
  obtain ⟨q0, _⟩ := tree_cells h.toTreeB
  have HL := Lib.hid (len_any w A.mb h.mem)
  have hb : decide ((t.ms.c.length : Int) ≤ 65533) = t.room := by unfold Tr.room; exact decide_eq_decide.2 (by omega)
  clear h
  go_enter Try.func52, Try.ntmps52
  go_wp2_with (go_at_call 76; refine HL.out.mono ?_; rintro e w' ⟨rfl, rfl⟩)
  go_ret
  exact ⟨by rw [← hb]; rfl, rfl⟩
set_option maxHeartbeats 2000000 in
theorem nd_turn (A : TA) (t : Tr) (b : Br) (old next : Nat) (w : World) (h : TreeAt w A t) (hl : t.ms.c.length ≤ 65536) (hn : t.ms.n ≤ 1000000000000) (ho : old < t.ns.length) (hx : next < t.ns.length) :
    Calls Try.prog 86 #[pt A.tb, b.agg, A.np old, A.np next] w fun e w' => e = .returned (.tuple #[]) ∧ TreeAt w' A (t.turn b old next) ∧ Fr A.foot w w' := by
  obtain ⟨bo, ho1, ho2⟩ := h.node ho
  obtain ⟨bx, hx1, hx2⟩ := h.node hx
  rw [ho1, hx1]
  obtain ⟨wa, hwa⟩ : ∃ wa, wa = w.alloc (.cells #[.int .i64 b.cell, .int .u64 b.first] 94) := ⟨_, rfl⟩
  have HF : Hid (Fr [] w wa) := Lib.hid (by rw [hwa]; exact (Fr.refl [] w).alloc _)
  have hta := h.keep0 HF.out
  have HT := Lib.hid hta
  have HB : Hid (wa.heap[w.heap.size]? = some (.cells #[.int .i64 b.cell, .int .u64 b.first] 94 (0, 0))) := Lib.hid (by rw [hwa]; exact new_block w _)
  have HWA := Lib.hid hwa
  have eo : IntKind.u64.wrap ((old : Int) - b.first) = u64 (old - b.first) := uw _
  have ex : IntKind.u64.wrap ((next : Int) - b.first) = u64 (next - b.first) := uw _
  have HC : Hid (∀ W, TreeAt W A t → Calls Try.prog 78 #[pt A.mb, .int .i64 b.cell, .int .u64 (u64 (old - b.first)), .int .u64 (u64 (next - b.first))] W fun e w' => e = .returned (.tuple #[.int .u64 (t.ms.at b.cell), .bool (t.ms.casB b.cell (u64 (old - b.first)))]) ∧ TreeAt w' A (t.turn b old next) ∧ Fr A.foot W w') := Lib.hid fun W hW => hW.casd hl hn _ _ _
  obtain ⟨C, hC⟩ : ∃ C, C = t.ms.at b.cell := ⟨_, rfl⟩
  obtain ⟨D, hD⟩ : ∃ D, D = t.ms.casB b.cell (u64 (old - b.first)) := ⟨_, rfl⟩
  obtain ⟨E, hE⟩ : ∃ E, E = t.turn b old next := ⟨_, rfl⟩
  rw [← hC, ← hD, ← hE] at HC
  rw [← hE]
  obtain ⟨UO, hUO⟩ : ∃ E, E = u64 (old - b.first) := ⟨_, rfl⟩
  obtain ⟨UX, hUX⟩ : ∃ E, E = u64 (next - b.first) := ⟨_, rfl⟩
  rw [← hUO] at eo HC
  rw [← hUX] at ex HC
  obtain ⟨bc, bf⟩ := b
  unfold Br.agg
  dsimp only at *
  obtain ⟨q0, _⟩ := tree_cells hta.toTreeB
  obtain ⟨r0, r1, _⟩ := cells2 HB.out
  have HO : Hid (NodB wa.drew bo old (t.nd old)) := Lib.hid (Fr.keep HF.out ho2 (by simp))
  have HX : Hid (NodB wa.drew bx next (t.nd next)) := Lib.hid (Fr.keep HF.out hx2 (by simp))
  have HOUT : Hid (w.heap.size ∉ A.foot) := Lib.hid (fun hm => Nat.lt_irrefl _ (h.toTreeB.lt _ hm))
  obtain ⟨o0, _⟩ := nod_cells (Fr.keep HF.out ho2 (by simp))
  obtain ⟨x0, _⟩ := nod_cells (Fr.keep HF.out hx2 (by simp))
  clear h hwa hta ho1 ho2 hx1 hx2 hl hn hC hD hE hUO hUX ho hx
  go_enter Try.func86, Try.ntmps86
  go_upto_region 1 with fail
  rw [← HWA.out]
  go_region_held3 (fun W => W.cell? ⟨A.tb, 0, none⟩ = some (pt A.mb) ∧ W.cell? ⟨w.heap.size, 0, none⟩ = some (.int .i64 bc) ∧ W.cell? ⟨w.heap.size, 1, none⟩ = some (.int .u64 bf) ∧ W.cell? ⟨bo, 0, none⟩ = some (.int .u64 old) ∧ W.cell? ⟨bx, 0, none⟩ = some (.int .u64 next)) (go_keep)
    ((go_at_call 78; refine (HC.out _ HT.out.drew).mono ?_; rintro e w4 ⟨rfl, ht4, hf4⟩
      have HT4 := Lib.hid ht4
      have HF4 := Lib.hid (Fr.trans (T := A.foot) (HF.out.drew.mono (by simp) : Fr A.foot w wa.drew) hf4 (fun x hx => Or.inl hx))
      obtain ⟨q0, _⟩ := tree_cells ht4.toTreeB
      obtain ⟨r0, r1, _⟩ := cells2 (hf4.keep HB.out HOUT.out)
      obtain ⟨o0, _⟩ := nod_cells (HT.out.drew.toTreeB.nodK hf4 HO.out)
      obtain ⟨x0, _⟩ := nod_cells (HT.out.drew.toTreeB.nodK hf4 HX.out)
      clear ht4 hf4))
  all_goals go_wp2
  all_goals go_end0
  all_goals exact ⟨rfl, HT4.out, HF4.out⟩

/-! nodes that are made -/
theorem nd_slice : Try.prog.underlying 62 = some (.slice 63) := Try.underlying62
theorem nd_info : (Try.prog.info? 63).map (fun i => (i.zero, i.size, i.bytes)) = some (some (.pointer none), 1, 8) := by kernel_rfl
theorem pt_one (l : List Nat) : ∀ y ∈ l.map pt, y.oneCell' = true := by
  intro y hy
  obtain ⟨x, _, rfl⟩ := List.mem_map.1 hy
  rfl
def Tr.add (t : Tr) (n : Nd) : Tr := { t with ns := t.ns ++ [n] }
def TA.add (A : TA) (av : Value) (b : Nat) : TA := { A with av := av, nb := A.nb ++ [b] }
/-- what a node that is added leaves -/
def Added (w : World) (A : TA) (t : Tr) (n : Nd) (b : Nat) (w' : World) : Prop :=
  ∃ av, TreeB w' (A.add av b) (t.add n) ∧ Fr A.foot w w' ∧ (∀ k, av.ownBlock = some k → A.av.ownBlock = some k ∨ w.heap.size ≤ k) ∧ w.heap.size ≤ b
theorem Tr.nd_add (t : Tr) (n : Nd) (p : Nat) (hp : p < t.ns.length) : (t.add n).nd p = t.nd p := by
  unfold Tr.nd Tr.add; simp [List.getD_eq_getElem?_getD, List.getElem?_append_left hp]
theorem Tr.nd_last (t : Tr) (n : Nd) : (t.add n).nd t.ns.length = n := by unfold Tr.nd Tr.add; simp [List.getD_eq_getElem?_getD]
/-- works name nodes that are there -/
def WksIn (t : Tr) : Prop := ∀ o ∈ t.ws, o.at_ < t.ns.length ∧ o.old < t.ns.length ∧ ∀ p, o.next = some p → p < t.ns.length
theorem TA.np_add (A : TA) (av : Value) (b p : Nat) (hp : p < A.nb.length) : (A.add av b).np p = A.np p := by
  unfold TA.np TA.add; simp [List.getD_eq_getElem?_getD, List.getElem?_append_left hp]
theorem wkV_add (A : TA) (av : Value) (b i : Nat) (o : Wk) (h : o.at_ < A.nb.length ∧ o.old < A.nb.length ∧ ∀ p, o.next = some p → p < A.nb.length) : wkV (A.add av b) i o = wkV A i o := by
  unfold wkV
  rw [A.np_add av b _ h.1, A.np_add av b _ h.2.1]
  cases hn : o.next with
  | none => rfl
  | some p => simp only [A.np_add av b _ (h.2.2 p hn)]
set_option maxHeartbeats 2000000 in
theorem nd_add (A : TA) (t : Tr) (n : Nd) (p0 : Nat) (w : World) (h : TreeB w A t) (hl : t.ns.length ≤ 1000000) (hw : WksIn t) :
    Calls Try.prog 72 #[pt A.tb, .agg (nodV p0 n)] w fun e w' => ∃ b, e = .returned (pt b) ∧ Added w A t n b w' := by
  obtain ⟨wa, hwa⟩ : ∃ wa, wa = w.alloc (.cells (nodV p0 n) 89) := ⟨_, rfl⟩
  have HF : Hid (Fr [] w wa) := Lib.hid (by rw [hwa]; exact (Fr.refl [] w).alloc _)
  have hta := h.keep0 HF.out
  have hnb : wa.heap[w.heap.size]? = some (.cells (nodV p0 n) 89 (0, 0)) := by rw [hwa]; exact new_block w _
  have hout : w.heap.size ∉ A.foot := fun hm => Nat.lt_irrefl _ (h.lt _ hm)
  have HLT := Lib.hid h.lt
  have hltb := h.lt _ A.foot_in.1
  have HWA := Lib.hid hwa
  have HW := Lib.hid hw
  have HLN := Lib.hid hl
  have hsep := h.apart
  obtain ⟨s, c, hav, hs⟩ : ∃ s c, A.av = .slice s t.ns.length c ∧ ∀ a, s = some a → ∃ g, a = ⟨g, 0, none⟩ := by
    rcases ownsRow_form h.row with ⟨hv, hn⟩ | ⟨g, c, hv, _, _⟩
    · exact ⟨none, 0, by rw [hv, hn], by simp⟩
    · exact ⟨_, c, hv, by rintro a ⟨⟩; exact ⟨g, rfl⟩⟩
  obtain ⟨w1, hw1⟩ : ∃ w1, w1 = wa.setCell ⟨w.heap.size, 0, none⟩ (.int .u64 t.ns.length) := ⟨_, rfl⟩
  have hf1 : Fr [] w w1 := by rw [hw1]; exact HF.out.setCell (Or.inr (Nat.le_refl _)) _
  have hnb1 : w1.heap[w.heap.size]? = some (.cells (nodV t.ns.length n) 89 (0, 0)) := by
    rw [hw1]; simpa [nodV] using set_block hnb 0 (.int .u64 t.ns.length)
  have ht1 : TreeB w1 A t := h.keep0 hf1
  have HW1 := Lib.hid hw1
  have HF1 := Lib.hid hf1
  have HT1 := Lib.hid ht1
  have HN1 := Lib.hid hnb1
  have eu : IntKind.u64.wrap (t.ns.length : Int) = t.ns.length := by rw [uw]; omega
  obtain ⟨q0, q1, _⟩ := tree_cells hta
  have g1 := free_block hta.blk 1
  have f0 := free_block hnb 0
  have c0 := cell_block hnb 0
  simp [nodV] at c0
  rw [hav] at q1
  have n1 : ¬ A.tb = w.heap.size := by omega
  have n2 : ¬ w.heap.size = A.tb := by omega
  have HSEP := Lib.hid hsep
  have HAV := Lib.hid hav
  have HOUT := Lib.hid hout
  unfold nodV
  clear h hta hnb hwa hw1 hf1 hnb1 ht1 hsep hw hl hav hout
  go_enter Try.func72, Try.ntmps72
  go_upto_region 1 with fail
  change Code.wp _ _ _ _ (w.alloc (.cells (nodV p0 n) 89))
  rw [← HWA.out]
  go_upto_region 2 with fail
  rw [← HW1.out]
  have hta := HT1.out
  clear q0 q1 g1 f0 c0
  obtain ⟨q0, q1, _⟩ := tree_cells hta
  have g1 := free_block hta.blk 1
  rw [HAV.out] at q1
  have hsz : w.heap.size < w1.heap.size := lt_of_block HN1.out
  have m1 : ¬ A.tb = w1.heap.size := by omega
  have m2 : ¬ w1.heap.size = A.tb := by omega
  clear hta
  go_wp2_with (at_builtin; refine wpList_append_fr rfl (.tmp 16) (.tmp 17) 62 63 (.pointer none) 1 8 rfl nd_slice nd_info rfl (by decide) (.slice s t.ns.length c) t.ns.length (A.nb.map pt) rfl ?own _ 1 [pt w.heap.size] rfl ?src (by intro y hy; simp at hy; subst hy; rfl) (by have := HLN.out; unfold maxLen; omega) (by have := HLN.out; omega) ?app)
  case own => rw [← HAV.out]; exact (HT1.out.keep0 ((Fr.refl [] w1).alloc _)).row
  case src => exact own_one _ _ _ _ rfl
  case app =>
  intro v' w2 hown hfr hat
  have hF2 : Fr A.av.ownBlock.toList w1 w2 := by
    rw [HAV.out]
    exact ((Fr.refl _ w1).alloc _).trans hfr (fun x hx => Or.inl hx)
  have hat' : ∀ k, v'.ownBlock = some k → A.av.ownBlock = some k ∨ w.heap.size ≤ k := fun k hk => by
    rw [HAV.out]
    exact (hat k hk).imp id (fun h => by rw [h]; first | omega | (simp; omega))
  have hsub : Fr A.foot w1 w2 := hF2.mono (fun k hk => Or.inl (A.foot_in.2.2.2.2 k (by simpa using hk)))
  have hsep := HSEP.out
  have hb2 : w2.heap[A.tb]? = _ := hF2.keep HT1.out.blk (by simp only [Option.mem_toList]; intro e; exact (hsep.2.2.2.2.1 _ e).1 rfl)
  have hnt : v'.ownBlock ≠ some A.tb := fun e => (hat' _ e).elim (fun h => (hsep.2.2.2.2.1 _ h).1 rfl) (fun h => by omega)
  have c1 := cell_block hb2 1
  have f1 := free_block hb2 1
  simp [treeV] at c1
  obtain ⟨w3, hw3⟩ : ∃ w3, w3 = w2.setCell ⟨A.tb, 1, none⟩ v' := ⟨_, rfl⟩
  have hF3 : Fr A.foot w w3 := by
    rw [hw3]
    exact ((HF1.out.mono (by simp) : Fr A.foot w w1).trans (T := A.foot) hsub (fun x hx => Or.inl hx)).setCell (Or.inl A.foot_in.1) _
  have hF13 : Fr A.foot w1 w3 := by rw [hw3]; exact hsub.setCell (Or.inl A.foot_in.1) _
  have hown' : w3.ownsRow 0 63 1 v' (t.add n).ns.length ((A.add v' w.heap.size).nb.map pt) := by
    rw [hw3]
    have := ownsRow_setCell_other hown (a := ⟨A.tb, 1, none⟩) hnt v'
    simpa [Tr.add, TA.add] using this
  have hadd : Added w A t n w.heap.size w3 := by
    have hnl := HT1.out.nlen
    refine ⟨v', ⟨?_, ?_, hown', by simp [Tr.add, TA.add, hnl], ?_, ?_, HT1.out.wlen, ?_⟩, hF3, hat', Nat.le_refl _⟩
    · rw [hw3]; simpa [treeV, TA.add, Tr.add] using set_block hb2 1 v'
    · have hk : ∀ k, k = A.mb ∨ A.mv.ownBlock = some k → k ∉ A.tb :: A.av.ownBlock.toList := by
        intro k hk hm
        simp only [List.mem_cons, Option.mem_toList] at hm
        rcases hk with rfl | hk
        · exact hm.elim (fun e => hsep.2.1 e.symm) (fun e => (hsep.2.2.2.2.1 _ e).2.2 rfl)
        · exact hm.elim (fun e => (hsep.2.2.2.1 _ hk).1 e) (fun e => hsep.2.2.2.2.2 _ e hk)
      have hF4 : Fr (A.tb :: A.av.ownBlock.toList) w1 w3 := by rw [hw3]; exact (hF2.mono (fun k hk => Or.inl (List.mem_cons_of_mem _ hk))).setCell (Or.inl (by simp)) _
      exact HT1.out.mem.keep hF4 (hk _ (Or.inl rfl)) (fun k h => hk _ (Or.inr h))
    · intro p b hp
      simp only [TA.add] at hp
      rcases Nat.lt_or_ge p A.nb.length with h | h
      · rw [List.getElem?_append_left h] at hp
        rw [Tr.nd_add _ _ _ (by omega)]
        exact HT1.out.nodK hF13 (HT1.out.nods p b hp)
      · rw [List.getElem?_append_right h] at hp
        have hp0 : p - A.nb.length = 0 := by
          rcases Nat.eq_zero_or_pos (p - A.nb.length) with h | h
          · exact h
          · rw [List.getElem?_eq_none (by simp; omega)] at hp; cases hp
        rw [hp0] at hp
        simp at hp
        subst hp
        have hpe : p = t.ns.length := by omega
        subst hpe
        rw [Tr.nd_last]
        exact hF13.keep HN1.out HOUT.out
    · have hF4 : Fr (A.tb :: A.av.ownBlock.toList) w1 w3 := by rw [hw3]; exact (hF2.mono (fun k hk => Or.inl (List.mem_cons_of_mem _ hk))).setCell (Or.inl (by simp)) _
      have hm := HT1.out.map.keep hF4 (by
        intro hm
        simp only [List.mem_cons, Option.mem_toList] at hm
        exact hm.elim (fun e => hsep.1 e.symm) (fun e => (hsep.2.2.2.2.1 _ e).2.1 rfl))
      exact hm
    · intro i b hb
      have h0 : t.wk (i + 1) ∈ t.ws := by
        have hlt : i < t.ws.length := by rw [← HT1.out.wlen]; exact (List.getElem?_eq_some_iff.1 hb).1
        unfold Tr.wk
        simp only [Nat.add_sub_cancel, List.getD_eq_getElem?_getD, List.getElem?_eq_getElem hlt, Option.getD_some]
        exact List.getElem_mem hlt
      obtain ⟨a1, a2, a3⟩ := HW.out _ h0
      have := HT1.out.wkK hF13 (HT1.out.wks i b hb)
      unfold WkB at this ⊢
      show _ = some (Obj.cells (wkV _ _ (t.wk (i + 1))) _ _)
      rw [wkV_add _ _ _ _ _ ⟨by rw [hnl]; exact a1, by rw [hnl]; exact a2, fun p hp => by rw [hnl]; exact a3 p hp⟩]
      exact this
  have HADD := Lib.hid hadd
  have HW3 := Lib.hid hw3
  rcases ownsRow_form hown' with ⟨rfl, hn⟩ | ⟨g, gc, rfl, _, _⟩
  · simp [Tr.add] at hn
  · clear hadd hw3 hF3 hF13 hown' hown hfr hat hF2 hat' hsub hsep hb2 hnt
    go_wp2
    go_ret
    rw [← HW3.out]
    exact ⟨_, rfl, HADD.out⟩
end Go.Proofs.Ythiobdhdefimhaa
