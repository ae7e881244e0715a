/- PACKAGE bst: what is asked of a tree's cells -/
import Derived.Test.YthiobdhdefimhaaBsVal
import Derived.Deep.RegionHeld3
import Derived.Deep.RegionHeldLaw
namespace Go.Proofs.Ythiobdhdefimhaa
open Go.RowKit
set_option linter.unusedVariables false
set_option linter.unusedSimpArgs false

theorem MS.ask_len (m : MS) (a : Int) : (m.ask a).c.length = m.c.length := by unfold MS.ask; split <;> rfl
theorem MS.put_len (m : MS) (a v : Int) : (m.put a v).c.length = m.c.length := by unfold MS.put; split <;> simp
theorem MS.cas_len (m : MS) (a o v : Int) : (m.cas a o v).c.length = m.c.length := by
  unfold MS.cas; split
  · exact MS.put_len ..
  · exact MS.ask_len ..
theorem TreeB.memd {w w' : World} {A : TA} {t : Tr} (h : TreeB w A t) {m : MS} {mv' : Value} (hf : Fr (MemAt.foot A.mb A.mv) w w') (hm : MemAt w' A.mb mv' m) : TreeB w' { A with mv := mv' } { t with ms := m } ∧ Fr A.foot w w' := by
  obtain ⟨a1, a2, a3, a4, a5, a6⟩ := h.apart
  have hff : Fr A.foot w w' := hf.mono fun k hk => Or.inl (by
    simp [MemAt.foot] at hk
    simp [TA.foot, MemAt.foot]
    rcases hk with rfl | hk <;> simp_all)
  have hin : ∀ k, k ∉ MemAt.foot A.mb A.mv ↔ k ≠ A.mb ∧ A.mv.ownBlock ≠ some k := by intro k; simp [MemAt.foot]
  exact ⟨⟨hf.keep h.blk ((hin _).2 ⟨a2, fun e => (a4 _ e).1 rfl⟩), hm, ownsRow_fr hf h.row (fun k hk => (hin _).2 ⟨(a5 k hk).2.2, a6 k hk⟩), h.nlen, fun p b hp => h.nodK hff (h.nods p b hp), h.map.keep hf ((hin _).2 ⟨a3, fun e => (a4 _ e).2.1 rfl⟩), h.wlen, fun i b hb => h.wkK hff (h.wks i b hb)⟩, hff⟩
theorem TreeAt.memd {w w' : World} {A : TA} {t : Tr} (h : TreeAt w A t) {m : MS} (hl : 3 ≤ m.c.length) (hf : Fr (MemAt.foot A.mb A.mv) w w') (hm : MemAt w' A.mb A.mv m) : TreeAt w' A { t with ms := m } ∧ Fr A.foot w w' :=
  ⟨⟨(h.toTreeB.memd hf hm).1, ⟨h.lo.1, hl⟩, h.top⟩, (h.toTreeB.memd hf hm).2⟩
/-- a cell is asked -/
theorem TreeAt.load {w : World} {A : TA} {t : Tr} (h : TreeAt w A t) (hl : t.ms.c.length ≤ 65536) (hn : t.ms.n ≤ 1000000000000) (c : Int) :
    Calls Try.prog 90 #[pt A.mb, .int .i64 c] w fun e w' => e = .returned (.tuple #[.int .u64 (t.ms.at c), .int .i64 (t.ms.err c)]) ∧ TreeAt w' A (t.ask c) ∧ Fr A.foot w w' :=
  (load_any w A.mb c h.mem hl hn).mono fun e w' ⟨he, hm, hf⟩ => ⟨he, h.memd (by rw [MS.ask_len]; exact h.lo.2) (hf.mono (by simp [MemAt.foot])) hm⟩
theorem TreeAt.casd {w : World} {A : TA} {t : Tr} (h : TreeAt w A t) (hl : t.ms.c.length ≤ 65536) (hn : t.ms.n ≤ 1000000000000) (c old new : Int) :
    Calls Try.prog 78 #[pt A.mb, .int .i64 c, .int .u64 old, .int .u64 new] w fun e w' => e = .returned (.tuple #[.int .u64 (t.ms.at c), .bool (t.ms.casB c old)]) ∧ TreeAt w' A (t.cas c old new) ∧ Fr A.foot w w' :=
  (cas_any w A.mb c old new h.mem hl hn).mono fun e w' ⟨he, hm, hf⟩ => ⟨he, h.memd (by rw [MS.cas_len]; exact h.lo.2) hf hm⟩
theorem TA.foot_in (A : TA) : A.tb ∈ A.foot ∧ A.mp ∈ A.foot ∧ A.mb ∈ A.foot ∧ (∀ k, A.mv.ownBlock = some k → k ∈ A.foot) ∧ (∀ k, A.av.ownBlock = some k → k ∈ A.foot) := by
  refine ⟨by simp [TA.foot], by simp [TA.foot], by simp [TA.foot, MemAt.foot], fun k hk => by simp [TA.foot, MemAt.foot, hk], fun k hk => by simp [TA.foot, MemAt.foot, hk]⟩
theorem TreeB.lt {w : World} {A : TA} {t : Tr} (h : TreeB w A t) : ∀ k ∈ A.foot, k < w.heap.size := by
  intro k hk
  simp [TA.foot, MemAt.foot] at hk
  rcases hk with rfl | rfl | rfl | hk | hk
  · exact lt_of_block h.blk
  · exact h.map.lt
  · exact lt_of_block h.mem.blk
  · exact (h.mem.row.lt k hk).2
  · exact (h.row.lt k hk).2
theorem TreeAt.slice {w : World} {A : TA} {t : Tr} (h : TreeAt w A t) : ∃ g c, A.av = .slice (some ⟨g, 0, none⟩) t.ns.length c ∧ g < w.heap.size ∧ (∀ p, p < t.ns.length → w.cell? ⟨g, p, none⟩ = some (A.np p)) ∧ t.ns.length ≤ c := by
  rcases ownsRow_form h.row with ⟨_, hn⟩ | ⟨g, c, hv, hg, hc⟩
  · have := h.lo.1; omega
  · refine ⟨g, c, hv, hg, fun p hp => ?_, hc⟩
    have hr := h.row
    rw [hv] at hr
    rw [(ownsRow_cell hr p hp).1]
    simp [TA.np, List.getD_eq_getElem?_getD, h.nlen, hp]

theorem TreeAt.drew {w : World} {A : TA} {t : Tr} (h : TreeAt w A t) : TreeAt w.drew A t := h.keep0 (Fr.refl [] w).drew
theorem kid_eq (t : Tr) (b : Br) {far : Int} (hf : far = t.ms.at b.cell) : IntKind.u64.wrap (b.first + far) = (t.kid b : Int) := by
  rw [uw, hf]; unfold Tr.kid; rw [Int.toNat_of_nonneg (by omega)]
set_option maxHeartbeats 1000000 in
theorem nd_child (A : TA) (t : Tr) (b : Br) (w : World) (h : TreeAt w A t) (hl : t.ms.c.length ≤ 65536) (hn : t.ms.n ≤ 1000000000000) (hk : t.kid b < t.ns.length) :
    Calls Try.prog 75 #[pt A.tb, b.agg] w fun e w' => e = .returned (A.np (t.kid b)) ∧ TreeAt w' A (t.ask b.cell) ∧ Fr A.foot w w' := by
  obtain ⟨wa, hwa⟩ : ∃ wa, wa = w.alloc (.cells #[.int .i64 b.cell, .int .u64 b.first] 94) := ⟨_, rfl⟩
  have HF : Hid (Fr [] w wa) := Lib.hid (by rw [hwa]; exact (Fr.refl [] w).alloc _)
  have hta := h.keep0 HF.out
  have HT := Lib.hid hta
  have HB : Hid (wa.heap[w.heap.size]? = some (.cells #[.int .i64 b.cell, .int .u64 b.first] 94 (0, 0))) := Lib.hid (by rw [hwa]; exact new_block w _)
  have HOUT : Hid (w.heap.size ∉ A.foot) := Lib.hid (fun hm => Nat.lt_irrefl _ (h.lt _ hm))
  have HWA := Lib.hid hwa
  obtain ⟨FAR, hfar⟩ : ∃ f, f = t.ms.at b.cell := ⟨_, rfl⟩
  obtain ⟨ERR, herr⟩ : ∃ f, f = t.ms.err b.cell := ⟨_, rfl⟩
  have HLD : Hid (∀ W, TreeAt W A t → Calls Try.prog 90 #[pt A.mb, .int .i64 b.cell] W fun e w' => e = .returned (.tuple #[.int .u64 FAR, .int .i64 ERR]) ∧ TreeAt w' A (t.ask b.cell) ∧ Fr A.foot W w') := Lib.hid fun W hW => by rw [hfar, herr]; exact hW.load hl hn _
  have HKE := Lib.hid (kid_eq t b hfar)
  obtain ⟨K, hK⟩ : ∃ K, K = t.kid b := ⟨_, rfl⟩
  rw [← hK] at HKE hk ⊢
  have HLEN : Hid ((t.ask b.cell).ns.length = t.ns.length) := Lib.hid rfl
  have HKK := Lib.hid hk
  obtain ⟨bc, bf⟩ := b
  unfold Br.agg
  dsimp only at *
  obtain ⟨q0, _⟩ := tree_cells hta.toTreeB
  obtain ⟨r0, r1, _⟩ := cells2 HB.out
  clear h hwa hta hfar herr hK hk
  go_enter Try.func75, Try.ntmps75
  go_upto_region 1 with fail
  rw [← HWA.out]
  go_region_held3 (fun W => W.cell? ⟨A.tb, 0, none⟩ = some (pt A.mb) ∧ W.cell? ⟨w.heap.size, 0, none⟩ = some (.int .i64 bc)) (go_keep)
    ((go_at_call 90; refine (HLD.out _ HT.out.drew).mono ?_; rintro e w4 ⟨rfl, ht4, hf4⟩
      have HT4 := Lib.hid ht4
      have HF4 := Lib.hid hf4
      obtain ⟨q0, q1, _⟩ := tree_cells ht4.toTreeB
      obtain ⟨r0, r1, _⟩ := cells2 (hf4.keep HB.out HOUT.out)
      clear ht4 hf4))
  have hkk := HKK.out
  have hke := HKE.out
  obtain ⟨g, gc, hav, hg, hgk, hgc⟩ := HT4.out.slice
  rw [hav] at q1
  have g0 := hgk K hkk
  rw [HLEN.out] at q1
  have hk0 : (0 : Int) ≤ K := by omega
  have hk1 : (K : Int) < t.ns.length := by omega
  have hk2 : (K : Int).toNat = K := by omega
  have HFE := Lib.hid (Fr.trans (T := A.foot) (HF.out.drew.mono (by simp) : Fr A.foot w wa.drew) HF4.out (fun x hx => Or.inl hx))
  clear hgk hgc hav hg
  go_wp2_with fail
  go_quiet (fail)
  go_wp2
  go_ret
  exact ⟨rfl, HT4.out.keep0 ((Fr.refl [] _).drewN _), HFE.out.drewN _⟩
end Go.Proofs.Ythiobdhdefimhaa
