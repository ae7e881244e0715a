/- PACKAGE bst: what is asked of a tree's cells
PACKAGE bst: a child turned; room; nodes that are made
PACKAGE bst: join, split
PACKAGE bst: start: a work that is begun -/
import Derived.Test.YtmhiolhgofackaaBsVal
import Derived.Deep.RegionHeld3
import Derived.Deep.RegionHeldLaw
namespace Go.Proofs.Ytmhiolhgofackaa
open Go.RowKit
set_option linter.unusedVariables false
set_option linter.unusedSimpArgs false

theorem MS.ask_len (m : MS) (a : Int) : (m.ask a).c.length = m.c.length := by unfold MS.ask; split <;> rfl
theorem MS.put_len (m : MS) (a v : Int) : (m.put a v).c.length = m.c.length := by unfold MS.put; split <;> simp
theorem MS.cas_len (m : MS) (a o v : Int) : (m.cas a o v).c.length = m.c.length := by
  unfold MS.cas; split
  · exact MS.put_len ..
  · exact MS.ask_len ..
theorem TreeB.memd {w w' : World} {A : TA} {t : Tr} (h : TreeB w A t) {m : MS} {mv' : Value} (hf : Fr (MemAt.foot A.mb A.mv) w w') (hm : MemAt w' A.mb mv' m) : TreeB w' { A with mv := mv' } { t with ms := m } ∧ Fr A.foot w w' := by
  obtain ⟨a1, a2, a3, a4, a5, a6⟩ := h.apart
  have hff : Fr A.foot w w' := hf.mono fun k hk => Or.inl (by
    simp [MemAt.foot] at hk
    simp [TA.foot, MemAt.foot]
    rcases hk with rfl | hk <;> simp_all)
  have hin : ∀ k, k ∉ MemAt.foot A.mb A.mv ↔ k ≠ A.mb ∧ A.mv.ownBlock ≠ some k := by intro k; simp [MemAt.foot]
  exact ⟨⟨hf.keep h.blk ((hin _).2 ⟨a2, fun e => (a4 _ e).1 rfl⟩), hm, ownsRow_fr hf h.row (fun k hk => (hin _).2 ⟨(a5 k hk).2.2, a6 k hk⟩), h.nlen, fun p b hp => h.nodK hff (h.nods p b hp), h.map.keep hf ((hin _).2 ⟨a3, fun e => (a4 _ e).2.1 rfl⟩), h.wlen, fun i b hb => h.wkK hff (h.wks i b hb)⟩, hff⟩
theorem TreeAt.memd {w w' : World} {A : TA} {t : Tr} (h : TreeAt w A t) {m : MS} (hl : 3 ≤ m.c.length) (hf : Fr (MemAt.foot A.mb A.mv) w w') (hm : MemAt w' A.mb A.mv m) : TreeAt w' A { t with ms := m } ∧ Fr A.foot w w' :=
  ⟨⟨(h.toTreeB.memd hf hm).1, ⟨h.lo.1, hl⟩, h.top⟩, (h.toTreeB.memd hf hm).2⟩
/-- a cell is asked -/
theorem TreeAt.load {w : World} {A : TA} {t : Tr} (h : TreeAt w A t) (hl : t.ms.c.length ≤ 65536) (hn : t.ms.n ≤ 1000000000000) (c : Int) :
    Calls Try.prog 83 #[pt A.mb, .int .i64 c] w fun e w' => e = .returned (.tuple #[.int .u64 (t.ms.at c), .int .i64 (t.ms.err c)]) ∧ TreeAt w' A (t.ask c) ∧ Fr A.foot w w' :=
  (load_any w A.mb c h.mem hl hn).mono fun e w' ⟨he, hm, hf⟩ => ⟨he, h.memd (by rw [MS.ask_len]; exact h.lo.2) (hf.mono (by simp [MemAt.foot])) hm⟩
theorem TreeAt.casd {w : World} {A : TA} {t : Tr} (h : TreeAt w A t) (hl : t.ms.c.length ≤ 65536) (hn : t.ms.n ≤ 1000000000000) (c old new : Int) :
    Calls Try.prog 72 #[pt A.mb, .int .i64 c, .int .u64 old, .int .u64 new] w fun e w' => e = .returned (.tuple #[.int .u64 (t.ms.at c), .bool (t.ms.casB c old)]) ∧ TreeAt w' A (t.cas c old new) ∧ Fr A.foot w w' :=
  (cas_any w A.mb c old new h.mem hl hn).mono fun e w' ⟨he, hm, hf⟩ => ⟨he, h.memd (by rw [MS.cas_len]; exact h.lo.2) hf hm⟩
theorem TA.foot_in (A : TA) : A.tb ∈ A.foot ∧ A.mp ∈ A.foot ∧ A.mb ∈ A.foot ∧ (∀ k, A.mv.ownBlock = some k → k ∈ A.foot) ∧ (∀ k, A.av.ownBlock = some k → k ∈ A.foot) := by
  refine ⟨by simp [TA.foot], by simp [TA.foot], by simp [TA.foot, MemAt.foot], fun k hk => by simp [TA.foot, MemAt.foot, hk], fun k hk => by simp [TA.foot, MemAt.foot, hk]⟩
theorem TreeB.lt {w : World} {A : TA} {t : Tr} (h : TreeB w A t) : ∀ k ∈ A.foot, k < w.heap.size := by
  intro k hk
  simp [TA.foot, MemAt.foot] at hk
  rcases hk with rfl | rfl | rfl | hk | hk
  · exact lt_of_block h.blk
  · exact h.map.lt
  · exact lt_of_block h.mem.blk
  · exact (h.mem.row.lt k hk).2
  · exact (h.row.lt k hk).2
theorem TreeAt.slice {w : World} {A : TA} {t : Tr} (h : TreeAt w A t) : ∃ g c, A.av = .slice (some ⟨g, 0, none⟩) t.ns.length c ∧ g < w.heap.size ∧ (∀ p, p < t.ns.length → w.cell? ⟨g, p, none⟩ = some (A.np p)) ∧ t.ns.length ≤ c := by
  rcases ownsRow_form h.row with ⟨_, hn⟩ | ⟨g, c, hv, hg, hc⟩
  · have := h.lo.1; omega
  · refine ⟨g, c, hv, hg, fun p hp => ?_, hc⟩
    have hr := h.row
    rw [hv] at hr
    rw [(ownsRow_cell hr p hp).1]
    simp [TA.np, List.getD_eq_getElem?_getD, h.nlen, hp]

theorem TreeAt.drew {w : World} {A : TA} {t : Tr} (h : TreeAt w A t) : TreeAt w.drew A t := h.keep0 (Fr.refl [] w).drew
theorem kid_eq (t : Tr) (b : Br) {far : Int} (hf : far = t.ms.at b.cell) : IntKind.u64.wrap (b.first + far) = (t.kid b : Int) := by
  rw [uw, hf]; unfold Tr.kid; rw [Int.toNat_of_nonneg (by omega)]
set_option maxHeartbeats 1000000 in
theorem nd_child (A : TA) (t : Tr) (b : Br) (w : World) (h : TreeAt w A t) (hl : t.ms.c.length ≤ 65536) (hn : t.ms.n ≤ 1000000000000) (hk : t.kid b < t.ns.length) :
    Calls Try.prog 69 #[pt A.tb, b.agg] w fun e w' => e = .returned (A.np (t.kid b)) ∧ TreeAt w' A (t.ask b.cell) ∧ Fr A.foot w w' := by
  obtain ⟨wa, hwa⟩ : ∃ wa, wa = w.alloc (.cells #[.int .i64 b.cell, .int .u64 b.first] 105) := ⟨_, rfl⟩
  have HF : Hid (Fr [] w wa) := Lib.hid (by rw [hwa]; exact (Fr.refl [] w).alloc _)
  have hta := h.keep0 HF.out
  have HT := Lib.hid hta
  have HB : Hid (wa.heap[w.heap.size]? = some (.cells #[.int .i64 b.cell, .int .u64 b.first] 105 (0, 0))) := Lib.hid (by rw [hwa]; exact new_block w _)
  have HOUT : Hid (w.heap.size ∉ A.foot) := Lib.hid (fun hm => Nat.lt_irrefl _ (h.lt _ hm))
  have HWA := Lib.hid hwa
  obtain ⟨FAR, hfar⟩ : ∃ f, f = t.ms.at b.cell := ⟨_, rfl⟩
  obtain ⟨ERR, herr⟩ : ∃ f, f = t.ms.err b.cell := ⟨_, rfl⟩
  have HLD : Hid (∀ W, TreeAt W A t → Calls Try.prog 83 #[pt A.mb, .int .i64 b.cell] W fun e w' => e = .returned (.tuple #[.int .u64 FAR, .int .i64 ERR]) ∧ TreeAt w' A (t.ask b.cell) ∧ Fr A.foot W w') := Lib.hid fun W hW => by rw [hfar, herr]; exact hW.load hl hn _
  have HKE := Lib.hid (kid_eq t b hfar)
  obtain ⟨K, hK⟩ : ∃ K, K = t.kid b := ⟨_, rfl⟩
  rw [← hK] at HKE hk ⊢
  have HLEN : Hid ((t.ask b.cell).ns.length = t.ns.length) := Lib.hid rfl
  have HKK := Lib.hid hk
  obtain ⟨bc, bf⟩ := b
  unfold Br.agg
  dsimp only at *
  obtain ⟨q0, _⟩ := tree_cells hta.toTreeB
  obtain ⟨r0, r1, _⟩ := cells2 HB.out
  clear h hwa hta hfar herr hK hk
  go_enter Try.func69, Try.ntmps69
  go_upto_region 1 with fail
  rw [← HWA.out]
  go_region_held3 (fun W => W.cell? ⟨A.tb, 0, none⟩ = some (pt A.mb) ∧ W.cell? ⟨w.heap.size, 0, none⟩ = some (.int .i64 bc)) (go_keep)
    ((go_at_call 83; refine (HLD.out _ HT.out.drew).mono ?_; rintro e w4 ⟨rfl, ht4, hf4⟩
      have HT4 := Lib.hid ht4
      have HF4 := Lib.hid hf4
      obtain ⟨q0, q1, _⟩ := tree_cells ht4.toTreeB
      obtain ⟨r0, r1, _⟩ := cells2 (hf4.keep HB.out HOUT.out)
      clear ht4 hf4))
  have hkk := HKK.out
  have hke := HKE.out
  obtain ⟨g, gc, hav, hg, hgk, hgc⟩ := HT4.out.slice
  rw [hav] at q1
  have g0 := hgk K hkk
  rw [HLEN.out] at q1
  have hk0 : (0 : Int) ≤ K := by omega
  have hk1 : (K : Int) < t.ns.length := by omega
  have hk2 : (K : Int).toNat = K := by omega
  have HFE := Lib.hid (Fr.trans (T := A.foot) (HF.out.drew.mono (by simp) : Fr A.foot w wa.drew) HF4.out (fun x hx => Or.inl hx))
  clear hgk hgc hav hg
  go_wp2_with fail
  go_quiet (fail)
  go_wp2
  go_ret
  exact ⟨rfl, HT4.out.keep0 ((Fr.refl [] _).drewN _), HFE.out.drewN _⟩
end Go.Proofs.Ytmhiolhgofackaa
namespace Go.Proofs.Ytmhiolhgofackaa
open Go.RowKit
set_option linter.unusedVariables false
set_option linter.unusedSimpArgs false

theorem nd_room (A : TA) (t : Tr) (w : World) (h : TreeAt w A t) (hl : t.ms.c.length ≤ 65536) :
    Calls Try.prog 49 #[pt A.tb] w fun e w' => e = .returned (.bool t.room) ∧ w = w' := by
  obtain ⟨q0, _⟩ := tree_cells h.toTreeB
  have HL := Lib.hid (len_any w A.mb h.mem)
  have hb : decide ((t.ms.c.length : Int) ≤ 65533) = t.room := by unfold Tr.room; exact decide_eq_decide.2 (by omega)
  clear h
  go_enter Try.func49, Try.ntmps49
  go_wp2_with (go_at_call 70; refine HL.out.mono ?_; rintro e w' ⟨rfl, rfl⟩)
  go_ret
  exact ⟨by rw [← hb]; rfl, rfl⟩
set_option maxHeartbeats 2000000 in
theorem nd_turn (A : TA) (t : Tr) (b : Br) (old next : Nat) (w : World) (h : TreeAt w A t) (hl : t.ms.c.length ≤ 65536) (hn : t.ms.n ≤ 1000000000000) (ho : old < t.ns.length) (hx : next < t.ns.length) :
    Calls Try.prog 80 #[pt A.tb, b.agg, A.np old, A.np next] w fun e w' => e = .returned (.tuple #[]) ∧ TreeAt w' A (t.turn b old next) ∧ Fr A.foot w w' := by
  obtain ⟨bo, ho1, ho2⟩ := h.node ho
  obtain ⟨bx, hx1, hx2⟩ := h.node hx
  rw [ho1, hx1]
  obtain ⟨wa, hwa⟩ : ∃ wa, wa = w.alloc (.cells #[.int .i64 b.cell, .int .u64 b.first] 105) := ⟨_, rfl⟩
  have HF : Hid (Fr [] w wa) := Lib.hid (by rw [hwa]; exact (Fr.refl [] w).alloc _)
  have hta := h.keep0 HF.out
  have HT := Lib.hid hta
  have HB : Hid (wa.heap[w.heap.size]? = some (.cells #[.int .i64 b.cell, .int .u64 b.first] 105 (0, 0))) := Lib.hid (by rw [hwa]; exact new_block w _)
  have HWA := Lib.hid hwa
  have eo : IntKind.u64.wrap ((old : Int) - b.first) = u64 (old - b.first) := uw _
  have ex : IntKind.u64.wrap ((next : Int) - b.first) = u64 (next - b.first) := uw _
  have HC : Hid (∀ W, TreeAt W A t → Calls Try.prog 72 #[pt A.mb, .int .i64 b.cell, .int .u64 (u64 (old - b.first)), .int .u64 (u64 (next - b.first))] W fun e w' => e = .returned (.tuple #[.int .u64 (t.ms.at b.cell), .bool (t.ms.casB b.cell (u64 (old - b.first)))]) ∧ TreeAt w' A (t.turn b old next) ∧ Fr A.foot W w') := Lib.hid fun W hW => hW.casd hl hn _ _ _
  obtain ⟨C, hC⟩ : ∃ C, C = t.ms.at b.cell := ⟨_, rfl⟩
  obtain ⟨D, hD⟩ : ∃ D, D = t.ms.casB b.cell (u64 (old - b.first)) := ⟨_, rfl⟩
  obtain ⟨E, hE⟩ : ∃ E, E = t.turn b old next := ⟨_, rfl⟩
  rw [← hC, ← hD, ← hE] at HC
  rw [← hE]
  obtain ⟨UO, hUO⟩ : ∃ E, E = u64 (old - b.first) := ⟨_, rfl⟩
  obtain ⟨UX, hUX⟩ : ∃ E, E = u64 (next - b.first) := ⟨_, rfl⟩
  rw [← hUO] at eo HC
  rw [← hUX] at ex HC
  obtain ⟨bc, bf⟩ := b
  unfold Br.agg
  dsimp only at *
  obtain ⟨q0, _⟩ := tree_cells hta.toTreeB
  obtain ⟨r0, r1, _⟩ := cells2 HB.out
  have HO : Hid (NodB wa.drew bo old (t.nd old)) := Lib.hid (Fr.keep HF.out ho2 (by simp))
  have HX : Hid (NodB wa.drew bx next (t.nd next)) := Lib.hid (Fr.keep HF.out hx2 (by simp))
  have HOUT : Hid (w.heap.size ∉ A.foot) := Lib.hid (fun hm => Nat.lt_irrefl _ (h.toTreeB.lt _ hm))
  obtain ⟨o0, _⟩ := nod_cells (Fr.keep HF.out ho2 (by simp))
  obtain ⟨x0, _⟩ := nod_cells (Fr.keep HF.out hx2 (by simp))
  clear h hwa hta ho1 ho2 hx1 hx2 hl hn hC hD hE hUO hUX ho hx
  go_enter Try.func80, Try.ntmps80
  go_upto_region 1 with fail
  rw [← HWA.out]
  go_region_held3 (fun W => W.cell? ⟨A.tb, 0, none⟩ = some (pt A.mb) ∧ W.cell? ⟨w.heap.size, 0, none⟩ = some (.int .i64 bc) ∧ W.cell? ⟨w.heap.size, 1, none⟩ = some (.int .u64 bf) ∧ W.cell? ⟨bo, 0, none⟩ = some (.int .u64 old) ∧ W.cell? ⟨bx, 0, none⟩ = some (.int .u64 next)) (go_keep)
    ((go_at_call 72; refine (HC.out _ HT.out.drew).mono ?_; rintro e w4 ⟨rfl, ht4, hf4⟩
      have HT4 := Lib.hid ht4
      have HF4 := Lib.hid (Fr.trans (T := A.foot) (HF.out.drew.mono (by simp) : Fr A.foot w wa.drew) hf4 (fun x hx => Or.inl hx))
      obtain ⟨q0, _⟩ := tree_cells ht4.toTreeB
      obtain ⟨r0, r1, _⟩ := cells2 (hf4.keep HB.out HOUT.out)
      obtain ⟨o0, _⟩ := nod_cells (HT.out.drew.toTreeB.nodK hf4 HO.out)
      obtain ⟨x0, _⟩ := nod_cells (HT.out.drew.toTreeB.nodK hf4 HX.out)
      clear ht4 hf4))
  all_goals go_wp2
  all_goals go_end0
  all_goals exact ⟨rfl, HT4.out, HF4.out⟩

/-! nodes that are made -/
theorem nd_slice : Try.prog.underlying 44 = some (.slice 45) := Try.underlying44
theorem nd_info : (Try.prog.info? 45).map (fun i => (i.zero, i.size, i.bytes)) = some (some (.pointer none), 1, 8) := by kernel_rfl
theorem pt_one (l : List Nat) : ∀ y ∈ l.map pt, y.oneCell' = true := by
  intro y hy
  obtain ⟨x, _, rfl⟩ := List.mem_map.1 hy
  rfl
def Tr.add (t : Tr) (n : Nd) : Tr := { t with ns := t.ns ++ [n] }
def TA.add (A : TA) (av : Value) (b : Nat) : TA := { A with av := av, nb := A.nb ++ [b] }
/-- what a node that is added leaves -/
def Added (w : World) (A : TA) (t : Tr) (n : Nd) (b : Nat) (w' : World) : Prop :=
  ∃ av, TreeB w' (A.add av b) (t.add n) ∧ Fr A.foot w w' ∧ (∀ k, av.ownBlock = some k → A.av.ownBlock = some k ∨ w.heap.size ≤ k) ∧ w.heap.size ≤ b
theorem Tr.nd_add (t : Tr) (n : Nd) (p : Nat) (hp : p < t.ns.length) : (t.add n).nd p = t.nd p := by
  unfold Tr.nd Tr.add; simp [List.getD_eq_getElem?_getD, List.getElem?_append_left hp]
theorem Tr.nd_last (t : Tr) (n : Nd) : (t.add n).nd t.ns.length = n := by unfold Tr.nd Tr.add; simp [List.getD_eq_getElem?_getD]
/-- works name nodes that are there -/
def WksIn (t : Tr) : Prop := ∀ o ∈ t.ws, o.at_ < t.ns.length ∧ o.old < t.ns.length ∧ ∀ p, o.next = some p → p < t.ns.length
theorem TA.np_add (A : TA) (av : Value) (b p : Nat) (hp : p < A.nb.length) : (A.add av b).np p = A.np p := by
  unfold TA.np TA.add; simp [List.getD_eq_getElem?_getD, List.getElem?_append_left hp]
theorem wkV_add (A : TA) (av : Value) (b i : Nat) (o : Wk) (h : o.at_ < A.nb.length ∧ o.old < A.nb.length ∧ ∀ p, o.next = some p → p < A.nb.length) : wkV (A.add av b) i o = wkV A i o := by
  unfold wkV
  rw [A.np_add av b _ h.1, A.np_add av b _ h.2.1]
  cases hn : o.next with
  | none => rfl
  | some p => simp only [A.np_add av b _ (h.2.2 p hn)]
set_option maxHeartbeats 2000000 in
theorem nd_add (A : TA) (t : Tr) (n : Nd) (p0 : Nat) (w : World) (h : TreeB w A t) (hl : t.ns.length ≤ 1000000) (hw : WksIn t) :
    Calls Try.prog 64 #[pt A.tb, .agg (nodV p0 n)] w fun e w' => ∃ b, e = .returned (pt b) ∧ Added w A t n b w' := by
  obtain ⟨wa, hwa⟩ : ∃ wa, wa = w.alloc (.cells (nodV p0 n) 98) := ⟨_, rfl⟩
  have HF : Hid (Fr [] w wa) := Lib.hid (by rw [hwa]; exact (Fr.refl [] w).alloc _)
  have hta := h.keep0 HF.out
  have hnb : wa.heap[w.heap.size]? = some (.cells (nodV p0 n) 98 (0, 0)) := by rw [hwa]; exact new_block w _
  have hout : w.heap.size ∉ A.foot := fun hm => Nat.lt_irrefl _ (h.lt _ hm)
  have HLT := Lib.hid h.lt
  have hltb := h.lt _ A.foot_in.1
  have HWA := Lib.hid hwa
  have HW := Lib.hid hw
  have HLN := Lib.hid hl
  have hsep := h.apart
  obtain ⟨s, c, hav, hs⟩ : ∃ s c, A.av = .slice s t.ns.length c ∧ ∀ a, s = some a → ∃ g, a = ⟨g, 0, none⟩ := by
    rcases ownsRow_form h.row with ⟨hv, hn⟩ | ⟨g, c, hv, _, _⟩
    · exact ⟨none, 0, by rw [hv, hn], by simp⟩
    · exact ⟨_, c, hv, by rintro a ⟨⟩; exact ⟨g, rfl⟩⟩
  obtain ⟨w1, hw1⟩ : ∃ w1, w1 = wa.setCell ⟨w.heap.size, 0, none⟩ (.int .u64 t.ns.length) := ⟨_, rfl⟩
  have hf1 : Fr [] w w1 := by rw [hw1]; exact HF.out.setCell (Or.inr (Nat.le_refl _)) _
  have hnb1 : w1.heap[w.heap.size]? = some (.cells (nodV t.ns.length n) 98 (0, 0)) := by
    rw [hw1]; simpa [nodV] using set_block hnb 0 (.int .u64 t.ns.length)
  have ht1 : TreeB w1 A t := h.keep0 hf1
  have HW1 := Lib.hid hw1
  have HF1 := Lib.hid hf1
  have HT1 := Lib.hid ht1
  have HN1 := Lib.hid hnb1
  have eu : IntKind.u64.wrap (t.ns.length : Int) = t.ns.length := by rw [uw]; omega
  obtain ⟨q0, q1, _⟩ := tree_cells hta
  have g1 := free_block hta.blk 1
  have f0 := free_block hnb 0
  have c0 := cell_block hnb 0
  simp [nodV] at c0
  rw [hav] at q1
  have n1 : ¬ A.tb = w.heap.size := by omega
  have n2 : ¬ w.heap.size = A.tb := by omega
  have HSEP := Lib.hid hsep
  have HAV := Lib.hid hav
  have HOUT := Lib.hid hout
  unfold nodV
  clear h hta hnb hwa hw1 hf1 hnb1 ht1 hsep hw hl hav hout
  go_enter Try.func64, Try.ntmps64
  go_upto_region 1 with fail
  change Code.wp _ _ _ _ (w.alloc (.cells (nodV p0 n) 98))
  rw [← HWA.out]
  go_upto_region 2 with fail
  rw [← HW1.out]
  have hta := HT1.out
  clear q0 q1 g1 f0 c0
  obtain ⟨q0, q1, _⟩ := tree_cells hta
  have g1 := free_block hta.blk 1
  rw [HAV.out] at q1
  have hsz : w.heap.size < w1.heap.size := lt_of_block HN1.out
  have m1 : ¬ A.tb = w1.heap.size := by omega
  have m2 : ¬ w1.heap.size = A.tb := by omega
  clear hta
  go_wp2_with (at_builtin; refine wpList_append_fr rfl (.tmp 16) (.tmp 17) 44 45 (.pointer none) 1 8 rfl nd_slice nd_info rfl (by decide) (.slice s t.ns.length c) t.ns.length (A.nb.map pt) rfl ?own _ 1 [pt w.heap.size] rfl ?src (by intro y hy; simp at hy; subst hy; rfl) (by have := HLN.out; unfold maxLen; omega) (by have := HLN.out; omega) ?app)
  case own => rw [← HAV.out]; exact (HT1.out.keep0 ((Fr.refl [] w1).alloc _)).row
  case src => exact own_one _ _ _ _ rfl
  case app =>
  intro v' w2 hown hfr hat
  have hF2 : Fr A.av.ownBlock.toList w1 w2 := by
    rw [HAV.out]
    exact ((Fr.refl _ w1).alloc _).trans hfr (fun x hx => Or.inl hx)
  have hat' : ∀ k, v'.ownBlock = some k → A.av.ownBlock = some k ∨ w.heap.size ≤ k := fun k hk => by
    rw [HAV.out]
    exact (hat k hk).imp id (fun h => by rw [h]; first | omega | (simp; omega))
  have hsub : Fr A.foot w1 w2 := hF2.mono (fun k hk => Or.inl (A.foot_in.2.2.2.2 k (by simpa using hk)))
  have hsep := HSEP.out
  have hb2 : w2.heap[A.tb]? = _ := hF2.keep HT1.out.blk (by simp only [Option.mem_toList]; intro e; exact (hsep.2.2.2.2.1 _ e).1 rfl)
  have hnt : v'.ownBlock ≠ some A.tb := fun e => (hat' _ e).elim (fun h => (hsep.2.2.2.2.1 _ h).1 rfl) (fun h => by omega)
  have c1 := cell_block hb2 1
  have f1 := free_block hb2 1
  simp [treeV] at c1
  obtain ⟨w3, hw3⟩ : ∃ w3, w3 = w2.setCell ⟨A.tb, 1, none⟩ v' := ⟨_, rfl⟩
  have hF3 : Fr A.foot w w3 := by
    rw [hw3]
    exact ((HF1.out.mono (by simp) : Fr A.foot w w1).trans (T := A.foot) hsub (fun x hx => Or.inl hx)).setCell (Or.inl A.foot_in.1) _
  have hF13 : Fr A.foot w1 w3 := by rw [hw3]; exact hsub.setCell (Or.inl A.foot_in.1) _
  have hown' : w3.ownsRow 0 45 1 v' (t.add n).ns.length ((A.add v' w.heap.size).nb.map pt) := by
    rw [hw3]
    have := ownsRow_setCell_other hown (a := ⟨A.tb, 1, none⟩) hnt v'
    simpa [Tr.add, TA.add] using this
  have hadd : Added w A t n w.heap.size w3 := by
    have hnl := HT1.out.nlen
    refine ⟨v', ⟨?_, ?_, hown', by simp [Tr.add, TA.add, hnl], ?_, ?_, HT1.out.wlen, ?_⟩, hF3, hat', Nat.le_refl _⟩
    · rw [hw3]; simpa [treeV, TA.add, Tr.add] using set_block hb2 1 v'
    · have hk : ∀ k, k = A.mb ∨ A.mv.ownBlock = some k → k ∉ A.tb :: A.av.ownBlock.toList := by
        intro k hk hm
        simp only [List.mem_cons, Option.mem_toList] at hm
        rcases hk with rfl | hk
        · exact hm.elim (fun e => hsep.2.1 e.symm) (fun e => (hsep.2.2.2.2.1 _ e).2.2 rfl)
        · exact hm.elim (fun e => (hsep.2.2.2.1 _ hk).1 e) (fun e => hsep.2.2.2.2.2 _ e hk)
      have hF4 : Fr (A.tb :: A.av.ownBlock.toList) w1 w3 := by rw [hw3]; exact (hF2.mono (fun k hk => Or.inl (List.mem_cons_of_mem _ hk))).setCell (Or.inl (by simp)) _
      exact HT1.out.mem.keep hF4 (hk _ (Or.inl rfl)) (fun k h => hk _ (Or.inr h))
    · intro p b hp
      simp only [TA.add] at hp
      rcases Nat.lt_or_ge p A.nb.length with h | h
      · rw [List.getElem?_append_left h] at hp
        rw [Tr.nd_add _ _ _ (by omega)]
        exact HT1.out.nodK hF13 (HT1.out.nods p b hp)
      · rw [List.getElem?_append_right h] at hp
        have hp0 : p - A.nb.length = 0 := by
          rcases Nat.eq_zero_or_pos (p - A.nb.length) with h | h
          · exact h
          · rw [List.getElem?_eq_none (by simp; omega)] at hp; cases hp
        rw [hp0] at hp
        simp at hp
        subst hp
        have hpe : p = t.ns.length := by omega
        subst hpe
        rw [Tr.nd_last]
        exact hF13.keep HN1.out HOUT.out
    · have hF4 : Fr (A.tb :: A.av.ownBlock.toList) w1 w3 := by rw [hw3]; exact (hF2.mono (fun k hk => Or.inl (List.mem_cons_of_mem _ hk))).setCell (Or.inl (by simp)) _
      have hm := HT1.out.map.keep hF4 (by
        intro hm
        simp only [List.mem_cons, Option.mem_toList] at hm
        exact hm.elim (fun e => hsep.1 e.symm) (fun e => (hsep.2.2.2.2.1 _ e).2.1 rfl))
      exact hm
    · intro i b hb
      have h0 : t.wk (i + 1) ∈ t.ws := by
        have hlt : i < t.ws.length := by rw [← HT1.out.wlen]; exact (List.getElem?_eq_some_iff.1 hb).1
        unfold Tr.wk
        simp only [Nat.add_sub_cancel, List.getD_eq_getElem?_getD, List.getElem?_eq_getElem hlt, Option.getD_some]
        exact List.getElem_mem hlt
      obtain ⟨a1, a2, a3⟩ := HW.out _ h0
      have := HT1.out.wkK hF13 (HT1.out.wks i b hb)
      unfold WkB at this ⊢
      show _ = some (Obj.cells (wkV _ _ (t.wk (i + 1))) _ _)
      rw [wkV_add _ _ _ _ _ ⟨by rw [hnl]; exact a1, by rw [hnl]; exact a2, fun p hp => by rw [hnl]; exact a3 p hp⟩]
      exact this
  have HADD := Lib.hid hadd
  have HW3 := Lib.hid hw3
  rcases ownsRow_form hown' with ⟨rfl, hn⟩ | ⟨g, gc, rfl, _, _⟩
  · simp [Tr.add] at hn
  · clear hadd hw3 hF3 hF13 hown' hown hfr hat hF2 hat' hsub hsep hb2 hnt
    go_wp2
    go_ret
    rw [← HW3.out]
    exact ⟨_, rfl, HADD.out⟩
end Go.Proofs.Ytmhiolhgofackaa
namespace Go.Proofs.Ytmhiolhgofackaa
open Go.RowKit
set_option linter.unusedVariables false
set_option linter.unusedSimpArgs false

theorem new_block2 (w : World) (a b : Obj) : ((w.alloc a).alloc b).heap[w.heap.size + 1]? = some b := by simpa using new_block (w.alloc a) b
/-- a tree that has more nodes -/
structure GrowA (w : World) (A A' : TA) : Prop where
  tb : A'.tb = A.tb
  mp : A'.mp = A.mp
  mb : A'.mb = A.mb
  wb : A'.wb = A.wb
  top : A'.top = A.top
  nb : ∃ l, A'.nb = A.nb ++ l
  mv : ∀ k, A'.mv.ownBlock = some k → A.mv.ownBlock = some k ∨ w.heap.size ≤ k
  av : ∀ k, A'.av.ownBlock = some k → A.av.ownBlock = some k ∨ w.heap.size ≤ k
theorem GrowA.refl (w : World) (A : TA) : GrowA w A A := ⟨rfl, rfl, rfl, rfl, rfl, ⟨[], by simp⟩, fun _ h => Or.inl h, fun _ h => Or.inl h⟩
theorem GrowA.trans {w w1 : World} {A B C : TA} (h : GrowA w A B) (k : GrowA w1 B C) (hs : w.heap.size ≤ w1.heap.size) : GrowA w A C := by
  obtain ⟨l, hl⟩ := h.nb
  obtain ⟨m, hm⟩ := k.nb
  exact ⟨k.tb.trans h.tb, k.mp.trans h.mp, k.mb.trans h.mb, k.wb.trans h.wb, k.top.trans h.top, ⟨l ++ m, by rw [hm, hl, List.append_assoc]⟩, fun i hi => (k.mv i hi).elim (h.mv i) (fun x => Or.inr (by omega)), fun i hi => (k.av i hi).elim (h.av i) (fun x => Or.inr (by omega))⟩
theorem GrowA.foot {w : World} {A A' : TA} (h : GrowA w A A') : ∀ x ∈ A'.foot, x ∈ A.foot ∨ w.heap.size ≤ x := by
  intro x hx
  obtain ⟨f1, f2, f3, f4, f5⟩ := A.foot_in
  simp [TA.foot, MemAt.foot] at hx
  rcases hx with rfl | rfl | rfl | hx | hx
  · rw [h.tb]; exact Or.inl f1
  · rw [h.mp]; exact Or.inl f2
  · rw [h.mb]; exact Or.inl f3
  · exact (h.mv x hx).imp (f4 x) id
  · exact (h.av x hx).imp (f5 x) id
theorem GrowA.np {w : World} {A A' : TA} (h : GrowA w A A') {p : Nat} (hp : p < A.nb.length) : A'.np p = A.np p := by
  obtain ⟨l, hl⟩ := h.nb
  unfold TA.np; rw [hl]; simp [List.getD_eq_getElem?_getD, List.getElem?_append_left hp]
theorem Added.grow {w w' : World} {A : TA} {t : Tr} {n : Nd} {b : Nat} (h : Added w A t n b w') : ∃ A', TreeB w' A' (t.add n) ∧ Fr A.foot w w' ∧ GrowA w A A' ∧ A'.nb = A.nb ++ [b] := by
  obtain ⟨av, h1, h2, h3, h4⟩ := h
  exact ⟨_, h1, h2, ⟨rfl, rfl, rfl, rfl, rfl, ⟨[b], rfl⟩, fun _ h => Or.inl h, h3⟩, rfl⟩
theorem WksIn.add {t : Tr} (h : WksIn t) (n : Nd) : WksIn (t.add n) := fun o ho => by
  obtain ⟨a, b, c⟩ := h o ho
  simp only [Tr.add, List.length_append, List.length_singleton]
  exact ⟨by omega, by omega, fun p hp => by have := c p hp; omega⟩
def innerOf (t : Tr) (high : Nd) : Nd := ⟨true, high.fin, high.key, 0, t.ms.c.length⟩
theorem join_eq (t : Tr) (low high : Nd) : t.join low high = ((({ t with ms := t.ms.grow 3 } : Tr).add low).add high).add (innerOf t high) := by
  simp [Tr.join, Tr.add, innerOf]
def Joined (w : World) (A : TA) (t : Tr) (low high : Nd) (e : Ending) (w' : World) : Prop :=
  ∃ A', e = .returned (.tuple #[A'.np (t.ns.length + 2), .int .i64 0]) ∧ TreeB w' A' (t.join low high) ∧ Fr A.foot w w' ∧ GrowA w A A' ∧ A'.nb.length = A.nb.length + 3
set_option maxHeartbeats 4000000 in
theorem nd_join (A : TA) (t : Tr) (low high : Nd) (p0 p1 : Nat) (w : World) (h : TreeB w A t) (hl : t.ns.length ≤ 900000) (hw : WksIn t) (hm : t.ms.c.length ≤ 65533) :
    Calls Try.prog 40 #[pt A.tb, .agg (nodV p0 low), .agg (nodV p1 high)] w (Joined w A t low high) := by
  obtain ⟨wa, hwa⟩ : ∃ wa, wa = (w.alloc (.cells (nodV p0 low) 98)).alloc (.cells (nodV p1 high) 98) := ⟨_, rfl⟩
  have hfa : Fr [] w wa := by rw [hwa]; exact ((Fr.refl [] w).alloc _).alloc _
  have HFA := Lib.hid hfa
  have hta := h.keep0 hfa
  have hlo : wa.heap[w.heap.size]? = some (.cells (nodV p0 low) 98 (0, 0)) := by rw [hwa]; exact ((Fr.refl [] _).alloc _).keep (new_block w _) (by simp)
  have hhi : wa.heap[w.heap.size + 1]? = some (.cells (nodV p1 high) 98 (0, 0)) := by rw [hwa]; simpa using new_block (w.alloc (.cells (nodV p0 low) 98)) (.cells (nodV p1 high) 98)
  have hg : t.ms.growOk 3 = true := by unfold MS.growOk; simp; omega
  have HG : Hid (Calls Try.prog 17 #[pt A.mb, .int .i64 3] wa fun e w' => e = .returned (.tuple #[.int .i64 t.ms.c.length, .int .i64 0]) ∧ Grew wa A.mb A.mv (t.ms.grow 3) w') := Lib.hid ((grow_any wa A.mb 3 hta.mem (by omega)).mono (fun e w' he => ⟨by rw [he.1]; simp [MS.growV, MS.growE, hg], he.2⟩))
  obtain ⟨q0, _⟩ := tree_cells hta
  have HWA := Lib.hid hwa
  have HT := Lib.hid hta
  have HLO : Hid (NodB wa w.heap.size p0 low) := Lib.hid hlo
  have HHI : Hid (NodB wa (w.heap.size + 1) p1 high) := Lib.hid hhi
  have HW := Lib.hid hw
  have HL := Lib.hid hl
  have HM := Lib.hid hm
  have HWF := Lib.hid h.lt
  clear h hwa hta hlo hhi hg hw hl hm hfa
  unfold nodV
  go_enter Try.func40, Try.ntmps40
  go_upto_region 1 with fail
  change Code.wp _ _ _ _ ((w.alloc (.cells (nodV p0 low) 98)).alloc (.cells (nodV p1 high) 98))
  rw [← HWA.out]
  go_wp2_with (go_at_call 17; refine HG.out.mono ?_; rintro e w1 ⟨rfl, v1, hm1, hf1, hv1⟩; refine go_stop ?_)
  unfold Stop
  obtain ⟨ht1, hff1⟩ := HT.out.memd hf1 hm1
  obtain ⟨A1, hA1e⟩ : ∃ A1, A1 = { A with mv := v1 } := ⟨_, rfl⟩
  obtain ⟨t1, htt⟩ : ∃ t1, t1 = ({ t with ms := t.ms.grow 3 } : Tr) := ⟨_, rfl⟩
  rw [← hA1e, ← htt] at ht1
  have hg1 : GrowA w A A1 := by rw [hA1e]; exact ⟨rfl, rfl, rfl, rfl, rfl, ⟨[], by simp⟩, fun k hk => (hv1 k hk).imp id (fun h => Nat.le_trans HFA.out.size h), fun _ h => Or.inl h⟩
  have etb : A.tb = A1.tb := by rw [hA1e]
  have enb : A1.nb = A.nb := by rw [hA1e]
  have HNB1 := Lib.hid enb
  have hlen1 : t1.ns.length = t.ns.length := by rw [htt]
  have HLO1 := Lib.hid (HT.out.nodK hff1 HLO.out)
  have HHI1 := Lib.hid (HT.out.nodK hff1 HHI.out)
  have HFF1 := Lib.hid (Fr.trans (T := A.foot) (HFA.out.mono (by simp) : Fr A.foot w wa) hff1 (fun x hx => Or.inl hx))
  have hA1 : Hid (∀ W, TreeB W A1 t1 → Calls Try.prog 64 #[pt A1.tb, .agg (nodV p0 low)] W fun e w' => ∃ b, e = .returned (pt b) ∧ Added W A1 t1 low b w') := Lib.hid fun W hW => nd_add A1 t1 low p0 W hW (by have := HL.out; omega) (by rw [htt]; exact HW.out)
  have HT1 := Lib.hid ht1
  have HG1 := Lib.hid hg1
  have HTT := Lib.hid htt
  have HL1 := Lib.hid hlen1
  unfold nodV at hA1
  rw [etb]
  clear enb hA1e ht1 hff1 hf1 hm1 hv1 hg1 htt etb q0 hlen1
  obtain ⟨y0, y1, y2, y3, y4, y5⟩ := nod_cells HLO1.out
  go_wp2_with (go_at_call 64; refine (hA1.out _ HT1.out).mono ?_; rintro e w2 ⟨b2, rfl, had⟩; refine go_stop ?_)
  unfold Stop
  obtain ⟨A2, ht2, hf2, hg2, hb2⟩ := had.grow
  obtain ⟨t2, htt2⟩ : ∃ t2, t2 = t1.add low := ⟨_, rfl⟩
  rw [← htt2] at ht2
  have etb : A1.tb = A2.tb := hg2.tb.symm
  have HHI2 := Lib.hid (HT1.out.nodK hf2 HHI1.out)
  have HFF2 := Lib.hid (Fr.trans (T := A1.foot) HFF1.out hf2 HG1.out.foot)
  have HG2 := Lib.hid (HG1.out.trans hg2 (Nat.le_trans HFF1.out.size (Nat.le_refl _)))
  have hA2 : Hid (∀ W, TreeB W A2 t2 → Calls Try.prog 64 #[pt A2.tb, .agg (nodV p1 high)] W fun e w' => ∃ b, e = .returned (pt b) ∧ Added W A2 t2 high b w') := Lib.hid fun W hW => nd_add A2 t2 high p1 W hW (by rw [htt2]; have := HL.out; have := HL1.out; simp [Tr.add]; omega) (by rw [htt2, HTT.out]; exact WksIn.add (t := { t with ms := t.ms.grow 3 }) HW.out low)
  have HT2 := Lib.hid ht2
  have HB2 := Lib.hid hb2
  have HTT2 := Lib.hid htt2
  unfold nodV at hA2
  rw [etb]
  clear ht2 hf2 hg2 hb2 had htt2 etb y0 y1 y2 y3 y4 y5
  obtain ⟨y0, y1, y2, y3, y4, y5⟩ := nod_cells HHI2.out
  go_wp2_with (go_at_call 64; refine (hA2.out _ HT2.out).mono ?_; rintro e w3 ⟨b3, rfl, had⟩; refine go_stop ?_)
  unfold Stop
  obtain ⟨A3, ht3, hf3, hg3, hb3⟩ := had.grow
  obtain ⟨t3, htt3⟩ : ∃ t3, t3 = t2.add high := ⟨_, rfl⟩
  rw [← htt3] at ht3
  have etb : A2.tb = A3.tb := hg3.tb.symm
  have HHI3 := Lib.hid (HT2.out.nodK hf3 HHI2.out)
  have HFF3 := Lib.hid (Fr.trans (T := A2.foot) HFF2.out hf3 HG2.out.foot)
  have HG3 := Lib.hid (HG2.out.trans hg3 HFF2.out.size)
  have hA3 : Hid (∀ W, TreeB W A3 t3 → Calls Try.prog 64 #[pt A3.tb, .agg (nodV 0 (innerOf t high))] W fun e w' => ∃ b, e = .returned (pt b) ∧ Added W A3 t3 (innerOf t high) b w') := Lib.hid fun W hW => nd_add A3 t3 _ 0 W hW (by rw [htt3, HTT2.out]; have := HL.out; have := HL1.out; simp [Tr.add]; omega) (by rw [htt3, HTT2.out, HTT.out]; exact (WksIn.add (t := { t with ms := t.ms.grow 3 }) HW.out low).add high)
  have HT3 := Lib.hid ht3
  have HB3 := Lib.hid hb3
  have HTT3 := Lib.hid htt3
  unfold nodV innerOf at hA3
  rw [etb]
  clear ht3 hf3 hg3 hb3 had htt3 etb y0 y1 y2 y3 y4 y5
  obtain ⟨y0, y1, y2, y3, y4, y5⟩ := nod_cells HHI3.out
  go_wp2_with (go_at_call 64; refine (hA3.out _ HT3.out).mono ?_; rintro e w4 ⟨b4, rfl, had⟩; refine go_stop ?_)
  unfold Stop
  obtain ⟨A4, ht4, hf4, hg4, hb4⟩ := had.grow
  have hnl : A4.nb = A.nb ++ [b2, b3, b4] := by rw [hb4, HB3.out, HB2.out, HNB1.out]; simp
  have hfin : Joined w A t low high (.returned (.tuple #[pt b4, .int .i64 0])) w4 := by
    refine ⟨A4, ?_, ?_, Fr.trans (T := A3.foot) HFF3.out hf4 HG3.out.foot, HG3.out.trans hg4 HFF3.out.size, by rw [hnl]; simp⟩
    · have : A4.np (t.ns.length + 2) = pt b4 := by
        unfold TA.np; rw [hnl]; have := HT.out.nlen; simp [List.getD_eq_getElem?_getD, ← this]
      rw [this]
    · rw [join_eq, ← HTT.out, ← HTT2.out, ← HTT3.out]; exact ht4
  have HFIN := Lib.hid hfin
  clear hfin ht4 hf4 hg4 hb4 hnl had y0 y1 y2 y3 y4 y5
  go_wp2
  go_ret2
  exact HFIN.out
theorem Joined.at {w w' : World} {A : TA} {t : Tr} {low high : Nd} {e : Ending} (h : Joined w A t low high e w') : ∃ A', e = .returned (.tuple #[A'.np (t.ns.length + 2), .int .i64 0]) ∧ TreeB w' A' (t.join low high) ∧ Fr A.foot w w' ∧ GrowA w A A' ∧ A'.nb.length = A.nb.length + 3 := h
/-- what split leaves -/
def Split (w : World) (A : TA) (t t' : Tr) (e : Ending) (w' : World) : Prop :=
  ∃ A', e = .returned (A'.np (t.ns.length + 2)) ∧ TreeAt w' A' t' ∧ Fr A.foot w w' ∧ GrowA w A A'
theorem Joined.tree {w w' : World} {A A' : TA} {t : Tr} {low high : Nd} (h : TreeAt w A t) (hr : t.room = true) (hb : TreeB w' A' (t.join low high)) (hg : GrowA w A A') : TreeAt w' A' (t.join low high) := by
  have hlo := h.lo
  refine ⟨hb, ⟨by simp [Tr.join], ?_⟩, ?_⟩
  · show 3 ≤ (t.ms.grow 3).c.length
    unfold MS.grow; split
    · simp
    · exact hlo.2
  · rw [hg.top, h.top, hg.np (by rw [h.nlen]; omega)]
set_option maxHeartbeats 4000000 in
theorem nd_split (A : TA) (t : Tr) (l : Nat) (k : ByteArray) (v : Int) (w : World) (h : TreeAt w A t) (hl : t.ns.length ≤ 900000) (hw : WksIn t) (hm : t.ms.c.length ≤ 65533) (hln : l < t.ns.length) :
    Calls Try.prog 56 #[pt A.tb, A.np l, .string k, .int .u64 v] w (Split w A t (t.split l k v)) := by
  have hroom : t.room = true := by unfold Tr.room; exact decide_eq_true hm
  obtain ⟨b, hb1, hb2⟩ := h.node hln
  rw [hb1]
  have HAB : Hid (∀ W, NodB W b l (t.nd l) → Calls Try.prog 65 #[pt b, .string k] W fun e w' => e = .returned (.bool ((t.nd l).above k)) ∧ W = w') := Lib.hid fun W hW => nd_above _ l b k W hW
  obtain ⟨B, hB⟩ : ∃ B, B = (t.nd l).above k := ⟨_, rfl⟩
  obtain ⟨n, hn⟩ : ∃ n, n = t.nd l := ⟨_, rfl⟩
  have hst : t.split l k v = if B = true then t.join (leafOf k v) n else t.join n (leafOf k v) := by unfold Tr.split; rw [hB, hn]
  rw [hst]
  rw [← hB, ← hn] at HAB
  rw [← hn] at hb2
  have HJ : Hid (∀ (A' : TA) W low high p0 p1, TreeB W A' t → Calls Try.prog 40 #[pt A'.tb, .agg (nodV p0 low), .agg (nodV p1 high)] W (Joined W A' t low high)) := Lib.hid fun A' W low high p0 p1 hW => nd_join A' t low high p0 p1 W hW hl hw hm
  have HT := Lib.hid h
  have HN := Lib.hid hb2
  have HR := Lib.hid hroom
  clear h hl hw hm hln hb1 hb2 hB hn hst hroom
  obtain ⟨y0, y1, y2, y3, y4, y5⟩ := nod_cells HN.out
  have hlt := lt_of_block HN.out
  go_enter Try.func56, Try.ntmps56
  go_upto_region 1 with fail
  go_cut [9, 10] (fun v9 v10 wx => ∃ x y, v9 = pt x ∧ v10 = pt y ∧ x ≠ y ∧ NodB wx x 0 (leafOf k v) ∧ NodB wx y l n ∧ Fr [] w wx ∧ w.heap.size ≤ x ∧ w.heap.size ≤ y)
  case first =>
    go_region
    · go_wp2_with fail
      go_meet
      refine ⟨_, _, rfl, rfl, by omega, ?_, ?_, (((Fr.refl [] w).alloc _).alloc _).drew, Nat.le_refl _, Nat.le_succ _⟩
      · exact ((Fr.refl [] _).alloc _).drew.keep (new_block w _) (by simp)
      · exact (Fr.refl [] _).drew.keep (new_block2 w _ _) (by simp)
    · go_wp2_with fail
      go_meet
      refine ⟨_, _, rfl, rfl, by omega, ?_, ?_, (((Fr.refl [] w).alloc _).alloc _).drew, Nat.le_succ _, Nat.le_refl _⟩
      · exact (Fr.refl [] _).drew.keep (new_block2 w _ _) (by simp)
      · exact ((Fr.refl [] _).alloc _).drew.keep (new_block w _) (by simp)
  case rest =>
  obtain ⟨x, y, rfl, rfl, hxy, hx, hy, hf, hx2, hy2⟩ := hcut
  obtain ⟨wx, hwx⟩ : ∃ x, x = wc := ⟨_, rfl⟩
  subst hwx
  have HF := Lib.hid hf
  have HNX := Lib.hid (hf.keep HN.out (by simp) : NodB wx b l n)
  have hout : ∀ k ∈ A.foot, k < w.heap.size := HT.out.toTreeB.lt
  have HLTF := Lib.hid hout
  have hne : ¬ x = y := hxy
  have hne2 : ¬ y = x := fun e => hxy e.symm
  clear hf hxy hout y0 y1 y2 y3 y4 y5 hlt
  have fx := free_block hx
  have fy := free_block hy
  have fx0 := fx 0
  have fx1 := fx 1
  have fx2 := fx 2
  have fx3 := fx 3
  have fx4 := fx 4
  have fx5 := fx 5
  have fy0 := fy 0
  have fy1 := fy 1
  have fy2 := fy 2
  have fy3 := fy 3
  have fy4 := fy 4
  have fy5 := fy 5
  obtain ⟨a0, a1, a2, a3, a4, a5⟩ := nod_cells hx
  obtain ⟨c0, c1, c2, c3, c4, c5⟩ := nod_cells hy
  have HX := Lib.hid hx
  have HY := Lib.hid hy
  have HX2 := Lib.hid hx2
  have HY2 := Lib.hid hy2
  clear hx hy fx fy
  have HFIN : Hid (∀ (W W' : World) (low high : Nd) (e : Ending), Fr [] w W → Joined W A t low high e W' → ∃ v, e = .returned (.tuple #[v, .int .i64 0]) ∧ Split w A t (t.join low high) (.returned v) W') := Lib.hid (by
    rintro W W' low high e hfw ⟨A', h1, h2, h3, h4, h5⟩
    have h4' := (GrowA.refl w A).trans h4 hfw.size
    exact ⟨_, h1, A', rfl, Joined.tree HT.out HR.out h2 h4', (hfw.mono (by simp) : Fr A.foot w W).trans h3 (fun x hx => Or.inl hx), h4'⟩)
  have HTX := Lib.hid (HT.out.toTreeB.keep0 HF.out)
  cases B
  · go_wp2_with (go_at_call 65; refine (HAB.out _ HNX.out).mono ?_; rintro e w1 ⟨rfl, rfl⟩)
    have hfz : ∀ W, Fr [] w W → Calls Try.prog 40 #[pt A.tb, .agg (nodV l n), .agg (nodV 0 (leafOf k v))] W (Joined W A t n (leafOf k v)) := fun W hW => HJ.out A W n (leafOf k v) l 0 (HT.out.toTreeB.keep0 hW)
    unfold nodV at hfz
    go_at_call 40
    refine (hfz _ (by repeat (first | with_reducible exact HF.out | with_reducible (refine Fr.setCell ?_ (Or.inr (by assumption)) _)))).mono ?_
    rintro e w2 hjo
    obtain ⟨V, rfl, hsp⟩ := HFIN.out _ _ _ _ _ (by repeat (first | with_reducible exact HF.out | with_reducible (refine Fr.setCell ?_ (Or.inr (by assumption)) _))) hjo
    clear hfz hjo a0 a1 a2 a3 a4 a5 c0 c1 c2 c3 c4 c5
    go_wp2
    go_ret
    exact hsp
  · have hj := HJ.out A wx (leafOf k v) n 0 l HTX.out
    unfold nodV leafOf at hj
    go_wp2_with (first | (go_at_call 65; refine (HAB.out _ HNX.out).mono ?_; rintro e w1 ⟨rfl, rfl⟩) | (go_at_call 40; refine hj.mono ?_; rintro e w2 hjo; obtain ⟨V, rfl, hsp⟩ := HFIN.out _ _ _ _ _ HF.out hjo; refine go_stop ?_))
    unfold Stop
    clear hj hjo
    go_wp2
    go_ret
    exact hsp
end Go.Proofs.Ytmhiolhgofackaa
namespace Go.Proofs.Ytmhiolhgofackaa
open Go.RowKit
set_option linter.unusedVariables false
set_option linter.unusedSimpArgs false

theorem i64_key : Try.prog.underlying 3 = some (.int .i64) := Try.underlying3
theorem wk_map : Try.prog.underlying 43 = some (.map 3 115) := Try.underlying43
theorem KI : KeyT Try.prog 3 intD := intT i64_key
theorem KI_ok {z : Int} (h0 : -2000000000 ≤ z) (h1 : z ≤ 2000000000) : intD.ok z := WalkArith.wf_i64 (by omega)
def TA.work (A : TA) (b : Nat) : TA := { A with wb := A.wb ++ [b] }
theorem worksG_start (A : TA) (t : Tr) (o : Wk) (b : Nat) (hl : A.wb.length = t.ws.length) (hv : ∀ i, t.live i = true → i ≤ t.ws.length) :
    ∀ z : Int, intD.ok z → worksG (A.work b) (t.start o) z = if z = (t.ws.length : Int) + 1 then some (pt b) else worksG A t z := by
  intro z _
  unfold worksG Tr.start
  dsimp only
  by_cases e : z = (t.ws.length : Int) + 1
  · subst e
    have : ((t.ws.length : Int) + 1).toNat = t.ws.length + 1 := by omega
    rw [if_pos rfl, this]
    simp only [if_true, and_true]
    rw [if_pos (by omega)]
    unfold TA.wp TA.work
    simp [List.getD_eq_getElem?_getD, ← hl]
  · rw [if_neg e]
    by_cases h0 : 0 < z
    · have hz : z.toNat ≠ t.ws.length + 1 := by omega
      simp only [if_neg hz]
      by_cases hv2 : t.live z.toNat = true
      · rw [if_pos ⟨h0, hv2⟩, if_pos ⟨h0, hv2⟩]
        have := hv _ hv2
        unfold TA.wp TA.work
        simp only [List.getD_eq_getElem?_getD]
        rw [List.getElem?_append_left (by omega)]
      · rw [if_neg (fun h => hv2 h.2), if_neg (fun h => hv2 h.2)]
    · rw [if_neg (fun h => h0 h.1), if_neg (fun h => h0 h.1)]
theorem np_work (A : TA) (b p : Nat) : (A.work b).np p = A.np p := rfl
theorem wkV_work (A : TA) (b i : Nat) (o : Wk) : wkV (A.work b) i o = wkV A i o := rfl
theorem Tr.wk_start (t : Tr) (o : Wk) : (t.start o).wk (t.ws.length + 1) = o := by unfold Tr.wk Tr.start; simp [List.getD_eq_getElem?_getD]
theorem Tr.wk_old (t : Tr) (o : Wk) (i : Nat) (hi : i < t.ws.length) : (t.start o).wk (i + 1) = t.wk (i + 1) := by
  unfold Tr.wk Tr.start; simp [List.getD_eq_getElem?_getD, List.getElem?_append_left hi]
/-- a tree whose last work is this, in memory -/
theorem TreeAt.started {w w1 w' : World} {A : TA} {t : Tr} {o : Wk} {b : Nat} (h : TreeAt w A t) (hb : w.heap[b]? = some (.cells (wkV A (t.ws.length + 1) o) 121 (0, 0))) (hv : ∀ i, t.live i = true → i ≤ t.ws.length)
    (h1 : w1 = w.setCell ⟨A.tb, 4, none⟩ (.int .i64 ((t.ws.length : Int) + 1))) (hm : MapG Try.prog 3 intD ptOk w' A.mp (t.ws.length + 1) (fun z => if z = (t.ws.length : Int) + 1 then some (pt b) else worksG A t z)) (hf : Fr [A.mp] w1 w') :
    TreeAt w' (A.work b) (t.start o) ∧ Fr A.foot w w' ∧ w'.heap[b]? = some (.cells (wkV A (t.ws.length + 1) o) 121 (0, 0)) := by
  obtain ⟨a1, a2, a3, a4, a5, a6⟩ := h.apart
  have hf1 : Fr [A.tb] w w1 := by rw [h1]; exact (Fr.refl _ _).setCell (Or.inl (by simp)) _
  have hf2 : Fr [A.tb, A.mp] w w' := (hf1.mono (by intro k hk; exact Or.inl (by simp at hk ⊢; exact Or.inl hk))).trans hf (by intro k hk; exact Or.inl (by simp at hk ⊢; exact Or.inr hk))
  have hff : Fr A.foot w w' := hf2.mono (by intro k hk; simp at hk; rcases hk with rfl | rfl; exact Or.inl A.foot_in.1; exact Or.inl A.foot_in.2.1)
  have hbl : w1.heap[A.tb]? = some (.cells (treeV (A.work b) (t.start o)) 49 (0, 0)) := by
    rw [h1]; simpa [treeV, TA.work, Tr.start] using set_block h.blk 4 (.int .i64 ((t.ws.length : Int) + 1))
  have hbk := h.toTreeB.wkK hff (A' := A) (o := o) (i := t.ws.length + 1) hb
  refine ⟨⟨⟨hf.keep hbl (by simpa [TA.work] using a1), ?_, ?_, h.nlen, fun p c hp => h.toTreeB.nodK hff (h.nods p c hp), ?_, ?_, ?_⟩, h.lo, h.top⟩, hff, hbk⟩
  · exact h.mem.keep hf2 (by simp; exact ⟨fun e => a2 e.symm, fun e => a3 e.symm⟩) (fun k hk => by simp; exact ⟨(a4 k hk).1, (a4 k hk).2.1⟩)
  · exact ownsRow_fr hf2 h.row (fun k hk => by simp; exact ⟨(a5 k hk).1, (a5 k hk).2.1⟩)
  · have := hm.eq (worksG_start A t o b h.wlen hv)
    simpa [Tr.start, TA.work] using this
  · simp [TA.work, Tr.start, h.wlen]
  · intro i c hc
    simp only [TA.work] at hc
    rcases Nat.lt_or_ge i A.wb.length with hi | hi
    · rw [List.getElem?_append_left hi] at hc
      rw [Tr.wk_old _ _ _ (by rw [← h.wlen]; exact hi)]
      exact h.toTreeB.wkK hff (h.wks i c hc)
    · rw [List.getElem?_append_right hi] at hc
      have hi0 : i - A.wb.length = 0 := by
        rcases Nat.eq_zero_or_pos (i - A.wb.length) with h | h
        · exact h
        · rw [List.getElem?_eq_none (by simp; omega)] at hc; cases hc
      rw [hi0] at hc
      simp at hc
      subst hc
      have : i = t.ws.length := by have := h.wlen; omega
      subst this
      rw [Tr.wk_start]
      exact hbk
theorem TreeAt.keepW {w w' : World} {A : TA} {t : Tr} {b : Nat} {cur : Array Value} (h : TreeAt w A t) (hf : Fr [b] w w') (hb : w.heap[b]? = some (.cells cur 121 (0, 0))) (hw : b ∉ A.wb) : TreeAt w' A t := by
  have hbout : b ∉ A.foot := fun hm => absurd (h.toTreeB.ty _ hm _ _ _ hb) (by decide)
  obtain ⟨f1, f2, f3, f4, f5⟩ := A.foot_in
  have ne : ∀ k ∈ A.foot, k ∉ [b] := fun k hk hm => by simp only [List.mem_singleton] at hm; subst hm; exact hbout hk
  refine ⟨⟨hf.keep h.blk (ne _ f1), h.mem.keep hf (ne _ f3) (fun k hk => ne _ (f4 k hk)), ownsRow_fr hf h.row (fun k hk => ne _ (f5 k hk)), h.nlen, fun p c hp => hf.keep (h.nods p c hp) ?_, h.map.keep hf (ne _ f2), h.wlen, fun i c hc => hf.keep (h.wks i c hc) ?_⟩, h.lo, h.top⟩
  · intro hm
    simp only [List.mem_singleton] at hm
    subst hm
    have h1 := h.nods p c hp
    unfold NodB at h1
    rw [hb] at h1; simp only [Option.some.injEq, Obj.cells.injEq] at h1; exact absurd h1.2.1 (by decide)
  · intro hm
    simp only [List.mem_singleton] at hm
    subst hm
    exact hw (List.mem_of_getElem? hc)
/-- what start leaves -/
def Started (w : World) (A : TA) (t : Tr) (o : Wk) (b : Nat) (seen : Int) (e : Ending) (w' : World) : Prop :=
  e = .returned (.tuple #[.int .u64 (t.ms.at (t.word o.at_)), .bool (t.ms.casB (t.word o.at_) seen)]) ∧ w'.heap[b]? = some (.cells (wkV A (t.ws.length + 1) o) 121 (0, 0)) ∧
  TreeAt w' (if t.ms.casB (t.word o.at_) seen then A.work b else A) (t.begin o seen) ∧ Fr (b :: A.foot) w w'
set_option maxHeartbeats 4000000 in
theorem nd_start (A : TA) (t : Tr) (o : Wk) (b i0 : Nat) (seen : Int) (w : World) (h : TreeAt w A t) (hl : t.ms.c.length ≤ 65536) (hn : t.ms.n ≤ 1000000000000) (hb : w.heap[b]? = some (.cells (wkV A i0 o) 121 (0, 0)))
    (ha : o.at_ < t.ns.length) (hc : 0 ≤ (t.nd o.at_).cell ∧ (t.nd o.at_).cell ≤ 65536) (hv : ∀ i, t.live i = true → i ≤ t.ws.length) (hw : t.ws.length ≤ 1000000000) (hbw : b ∉ A.wb) :
    Calls Try.prog 54 #[pt A.tb, pt b, .int .u64 seen] w (Started w A t o b seen) := by
  obtain ⟨bn, hn1, hn2⟩ := h.node ha
  have hbout : b ∉ A.foot := fun hm => absurd (h.toTreeB.ty _ hm _ _ _ hb) (by decide)
  obtain ⟨w1, hw1⟩ : ∃ w1, w1 = w.setCell ⟨b, 0, none⟩ (.int .i64 ((t.ws.length : Int) + 1)) := ⟨_, rfl⟩
  have hf1 : Fr [b] w w1 := by rw [hw1]; exact (Fr.refl _ _).setCell (Or.inl (by simp)) _
  have hb1 : w1.heap[b]? = some (.cells (wkV A (t.ws.length + 1) o) 121 (0, 0)) := by
    rw [hw1]; simpa [wkV] using set_block hb 0 (.int .i64 ((t.ws.length : Int) + 1))
  have hbn : bn ≠ b := by
    rintro rfl
    unfold NodB at hn2
    rw [hb] at hn2; simp only [Option.some.injEq, Obj.cells.injEq] at hn2; exact absurd hn2.2.1 (by decide)
  have hnd1 : NodB w1 bn o.at_ (t.nd o.at_) := hf1.keep hn2 (by simpa using hbn)
  have ht1 : TreeAt w1 A t := h.keepW hf1 hb hbw
  have htlt := h.toTreeB.lt _ A.foot_in.1
  have hblt := lt_of_block hb
  have n1 : ¬ b = A.tb := fun e => hbout (by rw [e]; exact A.foot_in.1)
  have n2 : ¬ A.tb = b := fun e => n1 e.symm
  obtain ⟨q0, q1, q2, q3, q4⟩ := tree_cells h.toTreeB
  obtain ⟨z0, z1, z2, z3, z4, z5, z6⟩ := cells7 (by unfold wkV at hb; exact hb)
  have g0 := free_block hb 0
  have HNP := Lib.hid hn1
  have hz3 := z3
  rw [hn1] at z3
  have e4 : IntKind.i64.wrap ((t.ws.length : Int) + 1) = t.ws.length + 1 := IntWalk.i64_in _ (by omega)
  have l0 : (0 : Int) ≤ t.ws.length := by omega
  have l1 : (t.ws.length : Int) ≤ 1000000000 := by omega
  have HWD : Hid (∀ W, NodB W bn o.at_ (t.nd o.at_) → Calls Try.prog 73 #[pt bn] W fun e w' => e = .returned (.int .i64 (t.word o.at_)) ∧ W = w') := Lib.hid fun W hW => nd_word _ _ _ _ hW hc.1 hc.2
  have HWW : Hid (∀ W, WkB W A b (t.ws.length + 1) o → Calls Try.prog 74 #[pt b, .int .i64 o.state] W fun e w' => e = .returned (.int .u64 (packW o.state (t.ws.length + 1))) ∧ W = w') := Lib.hid fun W hW => wk_word A b _ o o.state W hW
  have HCS : Hid (∀ W, TreeAt W A t → Calls Try.prog 72 #[pt A.mb, .int .i64 (t.word o.at_), .int .u64 seen, .int .u64 (packW o.state (t.ws.length + 1))] W fun e w' => e = .returned (.tuple #[.int .u64 (t.ms.at (t.word o.at_)), .bool (t.ms.casB (t.word o.at_) seen)]) ∧ TreeAt w' A (t.cas (t.word o.at_) seen (packW o.state (t.ws.length + 1))) ∧ Fr A.foot W w') := Lib.hid fun W hW => hW.casd hl hn _ _ _
  have hbeg : t.begin o seen = if t.ms.casB (t.word o.at_) seen then (t.cas (t.word o.at_) seen (packW o.state (t.ws.length + 1))).start o else t.cas (t.word o.at_) seen (packW o.state (t.ws.length + 1)) := rfl
  unfold Started
  rw [hbeg]
  obtain ⟨WD, hWD⟩ : ∃ a, a = t.word o.at_ := ⟨_, rfl⟩
  obtain ⟨PK, hPK⟩ : ∃ a, a = packW o.state (t.ws.length + 1) := ⟨_, rfl⟩
  rw [← hWD, ← hPK] at HCS
  rw [← hWD] at HWD
  rw [← hPK] at HWW
  rw [← hWD, ← hPK]
  obtain ⟨WAS, hWAS⟩ : ∃ a, a = t.ms.at WD := ⟨_, rfl⟩
  obtain ⟨OK, hOK⟩ : ∃ a, a = t.ms.casB WD seen := ⟨_, rfl⟩
  obtain ⟨t2, ht2⟩ : ∃ a, a = t.cas WD seen PK := ⟨_, rfl⟩
  rw [← hWAS, ← hOK, ← ht2] at HCS
  rw [← hWAS, ← hOK, ← ht2]
  have HT2E : Hid (t2.ws.length = t.ws.length ∧ ∀ i, t2.live i = true → i ≤ t2.ws.length) := Lib.hid (by rw [ht2]; exact ⟨rfl, hv⟩)
  have HT1 := Lib.hid ht1
  have HB1 : Hid (WkB w1 A b (t.ws.length + 1) o) := Lib.hid hb1
  have HN1 := Lib.hid hnd1
  have HF1 := Lib.hid hf1
  have HW1 := Lib.hid hw1
  have HBO := Lib.hid hbout
  clear h hb ha hc hv hw hbw hn1 hn2 hbout hw1 hf1 hb1 hbn hnd1 ht1 htlt hblt hz3 hbeg hWD hPK hWAS hOK ht2 q0 q1 q2 q3 z1 z2 z3 z4 z5 z6
  go_enter Try.func54, Try.ntmps54
  go_upto_region 2 with fail
  rw [← HW1.out]
  clear z0 g0 q4
  obtain ⟨q0, q1, q2, q3, q4⟩ := tree_cells HT1.out.toTreeB
  obtain ⟨z0, z1, z2, z3, z4, z5, z6⟩ := wk_cells HB1.out
  rw [HNP.out] at z3
  clear z2 z4 z5 z6
  go_region_held3 (fun W => W.cell? ⟨A.tb, 0, none⟩ = some (pt A.mb) ∧ W.cell? ⟨b, 1, none⟩ = some (.int .i64 o.state) ∧ W.cell? ⟨b, 3, none⟩ = some (pt bn)) (go_keep)
    (first
      | (go_at_call 73; refine (HWD.out _ ((Fr.refl [] w1).drew.keep HN1.out (by simp))).mono ?_; rintro e w4 ⟨rfl, rfl⟩)
      | (go_at_call 74; refine (HWW.out _ ((Fr.refl [] w1).drew.keep HB1.out (by simp))).mono ?_; rintro e w4 ⟨rfl, rfl⟩)
      | (go_at_call 72; refine (HCS.out _ HT1.out.drew).mono ?_; rintro e w4 ⟨rfl, ht4, hf4⟩
         have HT4 := Lib.hid ht4
         have HB4 : Hid (WkB w4 A b (t.ws.length + 1) o) := Lib.hid (hf4.keep ((Fr.refl [] w1).drew.keep HB1.out (by simp)) HBO.out)
         have HF4 := Lib.hid (Fr.trans (T := A.foot) (HF1.out.mono (by simp) : Fr (b :: A.foot) w w1) ((Fr.refl A.foot w1).drew.trans hf4 (fun x hx => Or.inl hx)) (fun x hx => Or.inl (List.mem_cons_of_mem _ hx)))
         obtain ⟨q0, q1, q2, q3, q4⟩ := tree_cells ht4.toTreeB
         obtain ⟨z0, z1, _, z3, _, _, _⟩ := wk_cells HB4.out
         rw [HNP.out] at z3
         clear ht4 hf4))
  have ec : ((t.ws.length + 1 : Nat) : Int) = t.ws.length + 1 := by omega
  rw [ec] at z0
  cases OK
  · go_wp2
    go_ret2
    exact ⟨rfl, HB4.out, HT4.out, HF4.out⟩
  · have g4 := free_block HT4.out.blk 4
    obtain ⟨w5, hw5⟩ : ∃ w5, w5 = w4.setCell ⟨A.tb, 4, none⟩ (.int .i64 ((t.ws.length : Int) + 1)) := ⟨_, rfl⟩
    have HW5 := Lib.hid hw5
    have hap := HT4.out.apart
    have hf5 : Fr [A.tb] w4 w5 := by rw [hw5]; exact (Fr.refl _ _).setCell (Or.inl (by simp)) _
    have hmap5 := HT4.out.map.keep hf5 (by simp; exact fun e => hap.1 e.symm)
    have hb5 : WkB w5 A b (t.ws.length + 1) o := hf5.keep HB4.out (by simp; exact n1)
    have hblk5 := set_block HT4.out.blk 4 (.int .i64 ((t.ws.length : Int) + 1))
    rw [← hw5] at hblk5
    have k3 := cell_block hblk5 3
    simp [treeV] at k3
    obtain ⟨b0', _⟩ := wk_cells hb5
    rw [ec] at b0'
    obtain ⟨w6, hst, hm6, hf6⟩ := MapG.store KI (hmap5.keep (Fr.refl [] w5).drew (by simp)) wk_map (n := t2.ws.length) (by have := HT2E.out.1; unfold maxLen; omega) (e := (t.ws.length : Int) + 1) (KI_ok (by omega) (by omega)) (x := pt b) rfl
    have hend := HT4.out.started (b := b) (o := o) (w1 := w5) (w' := w6) (by have := HB4.out; unfold WkB at this; rw [HT2E.out.1]; exact this) HT2E.out.2 (by rw [HT2E.out.1]; exact hw5) (by rw [← HT2E.out.1] at hm6; exact hm6) ((Fr.refl [A.mp] w5).drew.trans hf6 (fun x hx => Or.inl hx))
    have HEND := Lib.hid hend
    rw [HT2E.out.1] at HEND
    simp only [intD] at hst
    clear hw5 hmap5 hf5 hb5 hblk5 hm6 hf6 hend hap
    go_upto_region 5 with fail
    rw [← HW5.out]
    clear q0 q1 q2 q3 q4 z0 z1 z3 g4
    go_region
    go_wp2
    go_ret2
    exact ⟨rfl, HEND.out.2.2, HEND.out.1, HF4.out.trans HEND.out.2.1 (fun x hx => Or.inl (List.mem_cons_of_mem _ hx))⟩
end Go.Proofs.Ytmhiolhgofackaa
