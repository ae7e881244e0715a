/- PACKAGE bst: join, split -/
import Derived.Test.YthiobdhdefimhaaBsGrow
namespace Go.Proofs.Ythiobdhdefimhaa
open Go.RowKit
set_option linter.unusedVariables false
set_option linter.unusedSimpArgs false

theorem new_block2 (w : World) (a b : Obj) : ((w.alloc a).alloc b).heap[w.heap.size + 1]? = some b := by simpa using new_block (w.alloc a) b
/-- a tree that has more nodes -/
structure GrowA (w : World) (A A' : TA) : Prop where
  tb : A'.tb = A.tb
  mp : A'.mp = A.mp
  mb : A'.mb = A.mb
  wb : A'.wb = A.wb
  top : A'.top = A.top
  nb : ∃ l, A'.nb = A.nb ++ l
  mv : ∀ k, A'.mv.ownBlock = some k → A.mv.ownBlock = some k ∨ w.heap.size ≤ k
  av : ∀ k, A'.av.ownBlock = some k → A.av.ownBlock = some k ∨ w.heap.size ≤ k
theorem GrowA.refl (w : World) (A : TA) : GrowA w A A := ⟨rfl, rfl, rfl, rfl, rfl, ⟨[], by simp⟩, fun _ h => Or.inl h, fun _ h => Or.inl h⟩
theorem GrowA.trans {w w1 : World} {A B C : TA} (h : GrowA w A B) (k : GrowA w1 B C) (hs : w.heap.size ≤ w1.heap.size) : GrowA w A C := by
  obtain ⟨l, hl⟩ := h.nb
  obtain ⟨m, hm⟩ := k.nb
  exact ⟨k.tb.trans h.tb, k.mp.trans h.mp, k.mb.trans h.mb, k.wb.trans h.wb, k.top.trans h.top, ⟨l ++ m, by rw [hm, hl, List.append_assoc]⟩, fun i hi => (k.mv i hi).elim (h.mv i) (fun x => Or.inr (by omega)), fun i hi => (k.av i hi).elim (h.av i) (fun x => Or.inr (by omega))⟩
theorem GrowA.foot {w : World} {A A' : TA} (h : GrowA w A A') : ∀ x ∈ A'.foot, x ∈ A.foot ∨ w.heap.size ≤ x := by
  intro x hx
  obtain ⟨f1, f2, f3, f4, f5⟩ := A.foot_in
  simp [TA.foot, MemAt.foot] at hx
  rcases hx with rfl | rfl | rfl | hx | hx
  · rw [h.tb]; exact Or.inl f1
  · rw [h.mp]; exact Or.inl f2
  · rw [h.mb]; exact Or.inl f3
  · exact (h.mv x hx).imp (f4 x) id
  · exact (h.av x hx).imp (f5 x) id
theorem GrowA.np {w : World} {A A' : TA} (h : GrowA w A A') {p : Nat} (hp : p < A.nb.length) : A'.np p = A.np p := by
  obtain ⟨l, hl⟩ := h.nb
  unfold TA.np; rw [hl]; simp [List.getD_eq_getElem?_getD, List.getElem?_append_left hp]
theorem Added.grow {w w' : World} {A : TA} {t : Tr} {n : Nd} {b : Nat} (h : Added w A t n b w') : ∃ A', TreeB w' A' (t.add n) ∧ Fr A.foot w w' ∧ GrowA w A A' ∧ A'.nb = A.nb ++ [b] := by
  obtain ⟨av, h1, h2, h3, h4⟩ := h
  exact ⟨_, h1, h2, ⟨rfl, rfl, rfl, rfl, rfl, ⟨[b], rfl⟩, fun _ h => Or.inl h, h3⟩, rfl⟩
theorem WksIn.add {t : Tr} (h : WksIn t) (n : Nd) : WksIn (t.add n) := fun o ho => by
  obtain ⟨a, b, c⟩ := h o ho
  simp only [Tr.add, List.length_append, List.length_singleton]
  exact ⟨by omega, by omega, fun p hp => by have := c p hp; omega⟩
def innerOf (t : Tr) (high : Nd) : Nd := ⟨true, high.fin, high.key, 0, t.ms.c.length⟩
theorem join_eq (t : Tr) (low high : Nd) : t.join low high = ((({ t with ms := t.ms.grow 3 } : Tr).add low).add high).add (innerOf t high) := by
  simp [Tr.join, Tr.add, innerOf]
def Joined (w : World) (A : TA) (t : Tr) (low high : Nd) (e : Ending) (w' : World) : Prop :=
  ∃ A', e = .returned (.tuple #[A'.np (t.ns.length + 2), .int .i64 0]) ∧ TreeB w' A' (t.join low high) ∧ Fr A.foot w w' ∧ GrowA w A A' ∧ A'.nb.length = A.nb.length + 3
set_option maxHeartbeats 4000000 in
theorem nd_join (A : TA) (t : Tr) (low high : Nd) (p0 p1 : Nat) (w : World) (h : TreeB w A t) (hl : t.ns.length ≤ 900000) (hw : WksIn t) (hm : t.ms.c.length ≤ 65533) :
    Calls Try.prog 38 #[pt A.tb, .agg (nodV p0 low), .agg (nodV p1 high)] w (Joined w A t low high) := by
  obtain ⟨wa, hwa⟩ : ∃ wa, wa = (w.alloc (.cells (nodV p0 low) 89)).alloc (.cells (nodV p1 high) 89) := ⟨_, rfl⟩
  have hfa : Fr [] w wa := by rw [hwa]; exact ((Fr.refl [] w).alloc _).alloc _
  have HFA := Lib.hid hfa
  have hta := h.keep0 hfa
  have hlo : wa.heap[w.heap.size]? = some (.cells (nodV p0 low) 89 (0, 0)) := by rw [hwa]; exact ((Fr.refl [] _).alloc _).keep (new_block w _) (by simp)
  have hhi : wa.heap[w.heap.size + 1]? = some (.cells (nodV p1 high) 89 (0, 0)) := by rw [hwa]; simpa using new_block (w.alloc (.cells (nodV p0 low) 89)) (.cells (nodV p1 high) 89)
  have hg : t.ms.growOk 3 = true := by unfold MS.growOk; simp; omega
  have HG : Hid (Calls Try.prog 26 #[pt A.mb, .int .i64 3] wa fun e w' => e = .returned (.tuple #[.int .i64 t.ms.c.length, .int .i64 0]) ∧ Grew wa A.mb A.mv (t.ms.grow 3) w') := Lib.hid ((grow_any wa A.mb 3 hta.mem (by omega)).mono (fun e w' he => ⟨by rw [he.1]; simp [MS.growV, MS.growE, hg], he.2⟩))
  obtain ⟨q0, _⟩ := tree_cells hta
  have HWA := Lib.hid hwa
  have HT := Lib.hid hta
  have HLO : Hid (NodB wa w.heap.size p0 low) := Lib.hid hlo
  have HHI : Hid (NodB wa (w.heap.size + 1) p1 high) := Lib.hid hhi
  have HW := Lib.hid hw
  have HL := Lib.hid hl
  have HM := Lib.hid hm
  have HWF := Lib.hid h.lt
  clear h hwa hta hlo hhi hg hw hl hm hfa
  unfold nodV
  go_enter Try.func38, Try.ntmps38
  go_upto_region 1 with fail
  change Code.wp _ _ _ _ ((w.alloc (.cells (nodV p0 low) 89)).alloc (.cells (nodV p1 high) 89))
  rw [← HWA.out]
  go_wp2_with (go_at_call 26; refine HG.out.mono ?_; rintro e w1 ⟨rfl, v1, hm1, hf1, hv1⟩; refine go_stop ?_)
  unfold Stop
  obtain ⟨ht1, hff1⟩ := HT.out.memd hf1 hm1
  obtain ⟨A1, hA1e⟩ : ∃ A1, A1 = { A with mv := v1 } := ⟨_, rfl⟩
  obtain ⟨t1, htt⟩ : ∃ t1, t1 = ({ t with ms := t.ms.grow 3 } : Tr) := ⟨_, rfl⟩
  rw [← hA1e, ← htt] at ht1
  have hg1 : GrowA w A A1 := by rw [hA1e]; exact ⟨rfl, rfl, rfl, rfl, rfl, ⟨[], by simp⟩, fun k hk => (hv1 k hk).imp id (fun h => Nat.le_trans HFA.out.size h), fun _ h => Or.inl h⟩
  have etb : A.tb = A1.tb := by rw [hA1e]
  have enb : A1.nb = A.nb := by rw [hA1e]
  have HNB1 := Lib.hid enb
  have hlen1 : t1.ns.length = t.ns.length := by rw [htt]
  have HLO1 := Lib.hid (HT.out.nodK hff1 HLO.out)
  have HHI1 := Lib.hid (HT.out.nodK hff1 HHI.out)
  have HFF1 := Lib.hid (Fr.trans (T := A.foot) (HFA.out.mono (by simp) : Fr A.foot w wa) hff1 (fun x hx => Or.inl hx))
  have hA1 : Hid (∀ W, TreeB W A1 t1 → Calls Try.prog 72 #[pt A1.tb, .agg (nodV p0 low)] W fun e w' => ∃ b, e = .returned (pt b) ∧ Added W A1 t1 low b w') := Lib.hid fun W hW => nd_add A1 t1 low p0 W hW (by have := HL.out; omega) (by rw [htt]; exact HW.out)
  have HT1 := Lib.hid ht1
  have HG1 := Lib.hid hg1
  have HTT := Lib.hid htt
  have HL1 := Lib.hid hlen1
  unfold nodV at hA1
  rw [etb]
  clear enb hA1e ht1 hff1 hf1 hm1 hv1 hg1 htt etb q0 hlen1
  obtain ⟨y0, y1, y2, y3, y4, y5⟩ := nod_cells HLO1.out
  go_wp2_with (go_at_call 72; refine (hA1.out _ HT1.out).mono ?_; rintro e w2 ⟨b2, rfl, had⟩; refine go_stop ?_)
  unfold Stop
  obtain ⟨A2, ht2, hf2, hg2, hb2⟩ := had.grow
  obtain ⟨t2, htt2⟩ : ∃ t2, t2 = t1.add low := ⟨_, rfl⟩
  rw [← htt2] at ht2
  have etb : A1.tb = A2.tb := hg2.tb.symm
  have HHI2 := Lib.hid (HT1.out.nodK hf2 HHI1.out)
  have HFF2 := Lib.hid (Fr.trans (T := A1.foot) HFF1.out hf2 HG1.out.foot)
  have HG2 := Lib.hid (HG1.out.trans hg2 (Nat.le_trans HFF1.out.size (Nat.le_refl _)))
  have hA2 : Hid (∀ W, TreeB W A2 t2 → Calls Try.prog 72 #[pt A2.tb, .agg (nodV p1 high)] W fun e w' => ∃ b, e = .returned (pt b) ∧ Added W A2 t2 high b w') := Lib.hid fun W hW => nd_add A2 t2 high p1 W hW (by rw [htt2]; have := HL.out; have := HL1.out; simp [Tr.add]; omega) (by rw [htt2, HTT.out]; exact WksIn.add (t := { t with ms := t.ms.grow 3 }) HW.out low)
  have HT2 := Lib.hid ht2
  have HB2 := Lib.hid hb2
  have HTT2 := Lib.hid htt2
  unfold nodV at hA2
  rw [etb]
  clear ht2 hf2 hg2 hb2 had htt2 etb y0 y1 y2 y3 y4 y5
  obtain ⟨y0, y1, y2, y3, y4, y5⟩ := nod_cells HHI2.out
  go_wp2_with (go_at_call 72; refine (hA2.out _ HT2.out).mono ?_; rintro e w3 ⟨b3, rfl, had⟩; refine go_stop ?_)
  unfold Stop
  obtain ⟨A3, ht3, hf3, hg3, hb3⟩ := had.grow
  obtain ⟨t3, htt3⟩ : ∃ t3, t3 = t2.add high := ⟨_, rfl⟩
  rw [← htt3] at ht3
  have etb : A2.tb = A3.tb := hg3.tb.symm
  have HHI3 := Lib.hid (HT2.out.nodK hf3 HHI2.out)
  have HFF3 := Lib.hid (Fr.trans (T := A2.foot) HFF2.out hf3 HG2.out.foot)
  have HG3 := Lib.hid (HG2.out.trans hg3 HFF2.out.size)
  have hA3 : Hid (∀ W, TreeB W A3 t3 → Calls Try.prog 72 #[pt A3.tb, .agg (nodV 0 (innerOf t high))] W fun e w' => ∃ b, e = .returned (pt b) ∧ Added W A3 t3 (innerOf t high) b w') := Lib.hid fun W hW => nd_add A3 t3 _ 0 W hW (by rw [htt3, HTT2.out]; have := HL.out; have := HL1.out; simp [Tr.add]; omega) (by rw [htt3, HTT2.out, HTT.out]; exact (WksIn.add (t := { t with ms := t.ms.grow 3 }) HW.out low).add high)
  have HT3 := Lib.hid ht3
  have HB3 := Lib.hid hb3
  have HTT3 := Lib.hid htt3
  unfold nodV innerOf at hA3
  rw [etb]
  clear ht3 hf3 hg3 hb3 had htt3 etb y0 y1 y2 y3 y4 y5
  obtain ⟨y0, y1, y2, y3, y4, y5⟩ := nod_cells HHI3.out
  go_wp2_with (go_at_call 72; refine (hA3.out _ HT3.out).mono ?_; rintro e w4 ⟨b4, rfl, had⟩; refine go_stop ?_)
  unfold Stop
  obtain ⟨A4, ht4, hf4, hg4, hb4⟩ := had.grow
  have hnl : A4.nb = A.nb ++ [b2, b3, b4] := by rw [hb4, HB3.out, HB2.out, HNB1.out]; simp
  have hfin : Joined w A t low high (.returned (.tuple #[pt b4, .int .i64 0])) w4 := by
    refine ⟨A4, ?_, ?_, Fr.trans (T := A3.foot) HFF3.out hf4 HG3.out.foot, HG3.out.trans hg4 HFF3.out.size, by rw [hnl]; simp⟩
    · have : A4.np (t.ns.length + 2) = pt b4 := by
        unfold TA.np; rw [hnl]; have := HT.out.nlen; simp [List.getD_eq_getElem?_getD, ← this]
      rw [this]
    · rw [join_eq, ← HTT.out, ← HTT2.out, ← HTT3.out]; exact ht4
  have HFIN := Lib.hid hfin
  clear hfin ht4 hf4 hg4 hb4 hnl had y0 y1 y2 y3 y4 y5
  go_wp2
  go_ret2
  exact HFIN.out
theorem Joined.at {w w' : World} {A : TA} {t : Tr} {low high : Nd} {e : Ending} (h : Joined w A t low high e w') : ∃ A', e = .returned (.tuple #[A'.np (t.ns.length + 2), .int .i64 0]) ∧ TreeB w' A' (t.join low high) ∧ Fr A.foot w w' ∧ GrowA w A A' ∧ A'.nb.length = A.nb.length + 3 := h
/-- what split leaves -/
def Split (w : World) (A : TA) (t t' : Tr) (e : Ending) (w' : World) : Prop :=
  ∃ A', e = .returned (A'.np (t.ns.length + 2)) ∧ TreeAt w' A' t' ∧ Fr A.foot w w' ∧ GrowA w A A'
theorem Joined.tree {w w' : World} {A A' : TA} {t : Tr} {low high : Nd} (h : TreeAt w A t) (hr : t.room = true) (hb : TreeB w' A' (t.join low high)) (hg : GrowA w A A') : TreeAt w' A' (t.join low high) := by
  have hlo := h.lo
  refine ⟨hb, ⟨by simp [Tr.join], ?_⟩, ?_⟩
  · show 3 ≤ (t.ms.grow 3).c.length
    unfold MS.grow; split
    · simp
    · exact hlo.2
  · rw [hg.top, h.top, hg.np (by rw [h.nlen]; omega)]
set_option maxHeartbeats 4000000 in
theorem nd_split (A : TA) (t : Tr) (l : Nat) (k : ByteArray) (v : Int) (w : World) (h : TreeAt w A t) (hl : t.ns.length ≤ 900000) (hw : WksIn t) (hm : t.ms.c.length ≤ 65533) (hln : l < t.ns.length) :
    Calls Try.prog 59 #[pt A.tb, A.np l, .string k, .int .u64 v] w (Split w A t (t.split l k v)) := by
  have hroom : t.room = true := by unfold Tr.room; exact decide_eq_true hm
  obtain ⟨b, hb1, hb2⟩ := h.node hln
  rw [hb1]
  have HAB : Hid (∀ W, NodB W b l (t.nd l) → Calls Try.prog 45 #[pt b, .string k] W fun e w' => e = .returned (.bool ((t.nd l).above k)) ∧ W = w') := Lib.hid fun W hW => nd_above _ l b k W hW
  obtain ⟨B, hB⟩ : ∃ B, B = (t.nd l).above k := ⟨_, rfl⟩
  obtain ⟨n, hn⟩ : ∃ n, n = t.nd l := ⟨_, rfl⟩
  have hst : t.split l k v = if B = true then t.join (leafOf k v) n else t.join n (leafOf k v) := by unfold Tr.split; rw [hB, hn]
  rw [hst]
  rw [← hB, ← hn] at HAB
  rw [← hn] at hb2
  have HJ : Hid (∀ (A' : TA) W low high p0 p1, TreeB W A' t → Calls Try.prog 38 #[pt A'.tb, .agg (nodV p0 low), .agg (nodV p1 high)] W (Joined W A' t low high)) := Lib.hid fun A' W low high p0 p1 hW => nd_join A' t low high p0 p1 W hW hl hw hm
  have HT := Lib.hid h
  have HN := Lib.hid hb2
  have HR := Lib.hid hroom
  clear h hl hw hm hln hb1 hb2 hB hn hst hroom
  obtain ⟨y0, y1, y2, y3, y4, y5⟩ := nod_cells HN.out
  have hlt := lt_of_block HN.out
  go_enter Try.func59, Try.ntmps59
  go_upto_region 1 with fail
  go_cut [9, 10] (fun v9 v10 wx => ∃ x y, v9 = pt x ∧ v10 = pt y ∧ x ≠ y ∧ NodB wx x 0 (leafOf k v) ∧ NodB wx y l n ∧ Fr [] w wx ∧ w.heap.size ≤ x ∧ w.heap.size ≤ y)
  case first =>
    go_region
    · go_wp2_with fail
      go_meet
      refine ⟨_, _, rfl, rfl, by omega, ?_, ?_, (((Fr.refl [] w).alloc _).alloc _).drew, Nat.le_refl _, Nat.le_succ _⟩
      · exact ((Fr.refl [] _).alloc _).drew.keep (new_block w _) (by simp)
      · exact (Fr.refl [] _).drew.keep (new_block2 w _ _) (by simp)
    · go_wp2_with fail
      go_meet
      refine ⟨_, _, rfl, rfl, by omega, ?_, ?_, (((Fr.refl [] w).alloc _).alloc _).drew, Nat.le_succ _, Nat.le_refl _⟩
      · exact (Fr.refl [] _).drew.keep (new_block2 w _ _) (by simp)
      · exact ((Fr.refl [] _).alloc _).drew.keep (new_block w _) (by simp)
  case rest =>
  obtain ⟨x, y, rfl, rfl, hxy, hx, hy, hf, hx2, hy2⟩ := hcut
  obtain ⟨wx, hwx⟩ : ∃ x, x = wc := ⟨_, rfl⟩
  subst hwx
  have HF := Lib.hid hf
  have HNX := Lib.hid (hf.keep HN.out (by simp) : NodB wx b l n)
  have hout : ∀ k ∈ A.foot, k < w.heap.size := HT.out.toTreeB.lt
  have HLTF := Lib.hid hout
  have hne : ¬ x = y := hxy
  have hne2 : ¬ y = x := fun e => hxy e.symm
  clear hf hxy hout y0 y1 y2 y3 y4 y5 hlt
  have fx := free_block hx
  have fy := free_block hy
  have fx0 := fx 0
  have fx1 := fx 1
  have fx2 := fx 2
  have fx3 := fx 3
  have fx4 := fx 4
  have fx5 := fx 5
  have fy0 := fy 0
  have fy1 := fy 1
  have fy2 := fy 2
  have fy3 := fy 3
  have fy4 := fy 4
  have fy5 := fy 5
  obtain ⟨a0, a1, a2, a3, a4, a5⟩ := nod_cells hx
  obtain ⟨c0, c1, c2, c3, c4, c5⟩ := nod_cells hy
  have HX := Lib.hid hx
  have HY := Lib.hid hy
  have HX2 := Lib.hid hx2
  have HY2 := Lib.hid hy2
  clear hx hy fx fy
  have HFIN : Hid (∀ (W W' : World) (low high : Nd) (e : Ending), Fr [] w W → Joined W A t low high e W' → ∃ v, e = .returned (.tuple #[v, .int .i64 0]) ∧ Split w A t (t.join low high) (.returned v) W') := Lib.hid (by
    rintro W W' low high e hfw ⟨A', h1, h2, h3, h4, h5⟩
    have h4' := (GrowA.refl w A).trans h4 hfw.size
    exact ⟨_, h1, A', rfl, Joined.tree HT.out HR.out h2 h4', (hfw.mono (by simp) : Fr A.foot w W).trans h3 (fun x hx => Or.inl hx), h4'⟩)
  have HTX := Lib.hid (HT.out.toTreeB.keep0 HF.out)
  cases B
  · go_wp2_with (go_at_call 45; refine (HAB.out _ HNX.out).mono ?_; rintro e w1 ⟨rfl, rfl⟩)
    have hfz : ∀ W, Fr [] w W → Calls Try.prog 38 #[pt A.tb, .agg (nodV l n), .agg (nodV 0 (leafOf k v))] W (Joined W A t n (leafOf k v)) := fun W hW => HJ.out A W n (leafOf k v) l 0 (HT.out.toTreeB.keep0 hW)
    unfold nodV at hfz
    go_at_call 38
    refine (hfz _ (by repeat (first | with_reducible exact HF.out | with_reducible (refine Fr.setCell ?_ (Or.inr (by assumption)) _)))).mono ?_
    rintro e w2 hjo
    obtain ⟨V, rfl, hsp⟩ := HFIN.out _ _ _ _ _ (by repeat (first | with_reducible exact HF.out | with_reducible (refine Fr.setCell ?_ (Or.inr (by assumption)) _))) hjo
    clear hfz hjo a0 a1 a2 a3 a4 a5 c0 c1 c2 c3 c4 c5
    go_wp2
    go_ret
    exact hsp
  · have hj := HJ.out A wx (leafOf k v) n 0 l HTX.out
    unfold nodV leafOf at hj
    go_wp2_with (first | (go_at_call 45; refine (HAB.out _ HNX.out).mono ?_; rintro e w1 ⟨rfl, rfl⟩) | (go_at_call 38; refine hj.mono ?_; rintro e w2 hjo; obtain ⟨V, rfl, hsp⟩ := HFIN.out _ _ _ _ _ HF.out hjo; refine go_stop ?_))
    unfold Stop
    clear hj hjo
    go_wp2
    go_ret
    exact hsp
end Go.Proofs.Ythiobdhdefimhaa
