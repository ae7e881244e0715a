/- impostlaw02.do, a deed that frees a record -/
import Derived.Test.YtkampbbginamhaaSlabDo1
namespace Go.Proofs.Ytkampbbginamhaa
open Go.RowKit
set_option linter.unusedVariables false
set_option linter.unusedSimpArgs false

theorem told_isW {L : List Int} (h : ∀ x ∈ L, IsW x) (n : Int) : IsW (toldV L n) := by
  unfold toldV
  split
  · unfold IsW; omega
  · rw [List.getD_eq_getElem?_getD]
    cases hx : L[L.length - 1 - n.toNat]? with
    | none => simp; unfold IsW; omega
    | some x => exact h x (List.mem_of_getElem? hx)

/-- what a changed slab's blocks are, beside those of the answer's slab and of what was told -/
theorem blks_apart {w w1 : World} {p pm : Nat} {mv rv fv fv' lv : Value} {n' : Nat} {s' : SS} {X : Value} {X0 : Value}
    (hflt : ∀ k ∈ SlabAt.foot p pm mv rv fv, k < w.heap.size) (hlt0 : ∀ j ∈ blks X0, j < w.heap.size) (hlv : ∀ j, lv.ownBlock = some j → j < w.heap.size)
    (hap : ∀ b, (b ∈ blks X0 ∨ lv.ownBlock = some b) → b ∉ SlabAt.foot p pm mv rv fv)
    (hs1 : SlabAt w1 p pm mv rv fv' n' s') (hfv : ∀ j, fv'.ownBlock = some j → fv.ownBlock = some j ∨ w.heap.size + 1 + 1 < j) (hsz : w.heap.size + 1 + 1 < w1.heap.size)
    (hb : ∀ j ∈ blks X, j ∈ blks X0 ∨ w1.heap.size ≤ j) :
    (∀ j ∈ blks X, j ≠ w.heap.size ∧ j ≠ w.heap.size + 1 + 1 ∧ j ∉ SlabAt.foot p pm mv rv fv') ∧ (∀ j, lv.ownBlock = some j → j < w.heap.size ∧ j ∉ SlabAt.foot p pm mv rv fv') ∧
    (∀ j, fv'.ownBlock = some j → j ≠ w.heap.size ∧ j ≠ w.heap.size + 1 + 1) := by
  have key : ∀ j, j < w.heap.size → j ∉ SlabAt.foot p pm mv rv fv → j ∉ SlabAt.foot p pm mv rv fv' := by
    intro j hlt hn hm
    simp only [SlabAt.foot, List.mem_cons, List.mem_append, Option.mem_toList, not_or] at hm hn
    rcases hm with e | e | e | e | e
    · exact hn.1 e
    · exact hn.2.1 e
    · exact hn.2.2.1 e
    · exact hn.2.2.2.1 e
    · rcases hfv j e with e | e
      · exact hn.2.2.2.2 e
      · omega
  refine ⟨fun j hj => ?_, fun j hj => ⟨hlv j hj, key j (hlv j hj) (hap j (Or.inr hj))⟩, fun j hj => ?_⟩
  · rcases hb j hj with h | h
    · have := hlt0 j h
      exact ⟨by omega, by omega, key j this (hap j (Or.inl h))⟩
    · exact ⟨by omega, by omega, fun hm => by have := hs1.lt j hm; omega⟩
  · rcases hfv j hj with e | e
    · have := hflt j (by simp [SlabAt.foot, e]); omega
    · omega

set_option maxRecDepth 100000 in
set_option maxHeartbeats 2000000 in
theorem do_2 (w : World) (kind r i n v raw : Int) {V : Value} {FT : List Nat} {N K : Nat} {s : SS} {L : List Int} {G : Int} (h : SBoth w V FT N K s L) (ho : s.Ok G) (hN : N ≤ 10000000) (hK : K ≤ 10000000) (hrow : s.row.length ≤ 1000000) (hL : L.length ≤ 100000) (n0 : 0 ≤ n) (n1 : n ≤ 255)
    (hr : IsW r) (hk : (kind = 2 ∧ r = toldV L n) ∨ (kind = 5 ∧ r = raw)) :
    Calls Try.prog 11 #[V, .agg #[.int .i64 kind, .int .i64 i, .int .u8 n, .int .u64 v, .int .u64 raw]] w (DoOut w FT N K (s.free r) L) := by
  obtain ⟨p, pm, mv, rv, fv, nn, mx, gx, tx, fx, k, lv, rfl, rfl, hs, hnn, hrf, hl, hap⟩ := h
  have HT := Lib.hid (fun X (hX : Fr [] w X) => told_any X n (hl.keep hX (by simp)) n0 n1 (by omega))
  have HS := Lib.hid hs
  have HRF := Lib.hid hrf
  have HL := Lib.hid hl
  have HAP := Lib.hid hap
  have HO := Lib.hid ho
  have HW := Lib.hid hr
  obtain ⟨⟨ma, mc, rfl⟩, ⟨ga, gc, rfl⟩, ⟨ta, tc, rfl⟩, ⟨fa, fc, rfl⟩⟩ := hrf.forms
  obtain ⟨la, lc, rfl, _⟩ := hl.form
  have hflt := hs.lt
  have HFLT := Lib.hid hflt
  clear hs hrf hl hap ho hflt hr
  obtain ⟨fe, hfe⟩ : ∃ fe, s.freeE r = fe := ⟨_, rfl⟩
  obtain ⟨sf, hsf⟩ : ∃ sf, s.free r = sf := ⟨_, rfl⟩
  rw [hsf]
  have HFE := Lib.hid hfe
  have HSF := Lib.hid hsf
  clear hfe hsf
  obtain ⟨tv, htv⟩ : ∃ tv, tv = toldV L n := ⟨_, rfl⟩
  rw [← htv] at HT hk
  clear htv
  rcases hk with ⟨rfl, rfl⟩ | ⟨rfl, rfl⟩
  all_goals
    go_enter Try.func11, Try.ntmps11
    go_wp2_with (first | (go_at_call 20; refine (HT.out _ (by exact (((Fr.refl [] w).alloc _).alloc _).alloc _)).mono ?_; rintro e w1 ⟨rfl, rfl⟩) | (go_at_call 21; refine (slab_free _ p pm _ (HS.out.keep (by exact (((Fr.refl [] w).alloc _).alloc _).alloc _) (by simp)) HW.out HO.out hrow).mono ?_; rintro e w1 ⟨rfl, hout⟩; refine go_stop ?_))
    rw [HSF.out] at hout
    obtain ⟨fv', n', hs1, hn1, hf1, hfv1⟩ := hout
    obtain ⟨hA, hB, hC, hfw⟩ := three_boxes HFLT.out hf1
    obtain ⟨a0, a1, a2, a3, a4, a5, a6, a7, a8, a9, fa10⟩ := cells10 hA
    have hsz1 : w.heap.size + 1 + 1 < w1.heap.size := lt_of_block hC
    have hr1 := HRF.out.keep hfw (fun j hj => HAP.out j (Or.inl hj))
    have hfv1' : ∀ j, fv'.ownBlock = some j → fv.ownBlock = some j ∨ w.heap.size + 1 + 1 < j := by
      intro j hj; exact (hfv1 j hj).imp id (fun h => by first | omega | (simp at h; omega))
    have HRA := Lib.hid (rfree_any w1 _ ⟨_, _, _, _, k, rfl, hr1⟩ HW.out HO.out hrow)
    have HL1 := Lib.hid (HL.out.keep hfw (fun j hj => HAP.out j (Or.inr hj)))
    have HS1 := Lib.hid hs1
    have HF1 := Lib.hid hfw
    have HFV := Lib.hid hfv1'
    have HA1 := Lib.hid hA
    have HC1 := Lib.hid hC
    clear hs1 hf1 hfv1 hfv1' hA hB hC hfw hr1
    unfold refAgg at HRA
    unfold Stop
    rw [HFE.out]
    unfold FreedRef at HRA
    rw [HFE.out, HSF.out] at HRA
    have hz2 : (fe == fe) = true := by simp
    go_wp2_with (go_at_call 29; refine HRA.out.mono ?_; rintro e w2 ⟨X', rfl, hnext⟩; refine go_stop ?_)
    obtain ⟨⟨mx', gx', tx', fx', k', rfl, hr2⟩, hf2, hb2⟩ := hnext
    have hA := hf2.keep HA1.out (by simp)
    have hC := hf2.keep HC1.out (by simp)
    clear a0 a1 a2 a3 a4 a5 a6 a7 a8 a9 fa10
    obtain ⟨a0, a1, a2, a3, a4, a5, a6, a7, a8, a9, fa10⟩ := cells10 hA
    obtain ⟨c0, c1, c2, c3, c4, c5, c6, c7, c8, c9, fc10⟩ := cells10 hC
    obtain ⟨⟨ma', mc', rfl⟩, ⟨ga', gc', rfl⟩, ⟨ta', tc', rfl⟩, ⟨fa', fc', rfl⟩⟩ := hr2.forms
    have hsz2 : w.heap.size + 1 + 1 < w2.heap.size := lt_of_block hC
    have hsz2a : w.heap.size < w2.heap.size := by omega
    have hs2 := HS1.out.keep hf2 (by simp)
    have hl2 := HL1.out.keep hf2 (by simp)
    have hF2 : Fr (SlabAt.foot p pm mv rv fv) w w2 := HF1.out.trans hf2 (by simp)
    have HR2 := Lib.hid hr2
    have HS2 := Lib.hid hs2
    have HL2 := Lib.hid hl2
    have HF2 := Lib.hid hF2
    obtain ⟨hbl, hlb, hfvS⟩ := blks_apart HFLT.out HRF.out.lt (fun j hj => HL.out.lt j hj) HAP.out HS1.out HFV.out hsz1 hb2
    have HBL := Lib.hid hbl
    have HLB := Lib.hid hlb
    have HFVS := Lib.hid hfvS
    clear hA hC hf2 hb2 hr2 hs2 hl2 hF2 hbl hlb hfvS
    unfold Stop refAgg
    go_wp2
    refine bodyPost_ret (v := .tuple #[.agg #[.pointer (some ⟨p, 0, none⟩), .pointer (some ⟨pm, 0, none⟩), .slice ma' sf.c.length mc', .int .i64 k', .int .i64 sf.first, .int .i64 sf.words, .slice ga' sf.recs.length gc', .slice ta' sf.recs.length tc', .slice fa' sf.row.length fc', .slice la L.length lc], .bool true]) (by simp [results, Try.results11, go_sem, *]) rfl ?_
    refine doPost2 (S := [w.heap.size, w.heap.size + 1 + 1]) HFLT.out HS2.out (by omega) HF2.out (fun j hj => (HFV.out j hj).imp id (fun h => by omega)) HR2.out HL2.out ?_ ?_ ?_
    · repeat (first | (with_reducible exact Fr.refl _ _) | (with_reducible refine Fr.alloc ?_ _) | (with_reducible refine Fr.drew ?_) | (with_reducible refine Fr.setCell ?_ (Or.inl (by simp)) _))
    · intro j hj
      simp at hj
      refine ⟨by omega, fun hm => ?_, fun hm => ?_, fun hm => ?_⟩
      · have := HBL.out j hm; omega
      · have := (HLB.out j hm).1; omega
      · have := HFVS.out j hm; omega
    · rintro b (hb | hb)
      · exact (HBL.out b hb).2.2
      · exact (HLB.out b hb).2
end Go.Proofs.Ytkampbbginamhaa
