/- CONTRACTS OF PACKAGE slab: Cell, Free, Alloc -/
import Derived.Test.YtkampbbginamhaaSlab
namespace Go.Proofs.Ytkampbbginamhaa
open Go.RowKit
set_option linter.unusedVariables false
set_option linter.unusedSimpArgs false

/-- numbers that a slab may have -/
structure SS.Ok (s : SS) (G : Int) : Prop where
  fit : s.first + s.recs.length * s.words ≤ s.c.length
  big : s.c.length ≤ 65536
  row : ∀ p ∈ s.row, p < s.recs.length
  gen : ∀ r ∈ s.recs, 0 ≤ r.1 ∧ r.1 ≤ G
  word : 1 ≤ s.words
theorem SS.Ok.nrec {s : SS} {G : Int} (h : s.Ok G) : s.recs.length ≤ 65536 ∧ s.words ≤ 65536 + 0 * s.recs.length ∨ s.recs.length = 0 := by
  have := h.fit; have := h.big; have := h.word
  rcases Nat.eq_zero_or_pos s.recs.length with h0 | h0
  · exact Or.inr h0
  · left
    have h1 : s.recs.length * 1 ≤ s.recs.length * s.words := Nat.mul_le_mul_left _ h.word
    have h2 : 1 * s.words ≤ s.recs.length * s.words := Nat.mul_le_mul_right _ h0
    omega
theorem SS.has_place {s : SS} {r : Int} (h : s.has r = true) : ∃ q : Nat, (q : Int) = plc r ∧ q < s.recs.length ∧ s.recs[q]? = some (gnr r, true) := by
  unfold SS.has at h
  rw [Bool.and_eq_true] at h
  have h1 := of_decide_eq_true h.1
  have h2 := of_decide_eq_true h.2
  exact ⟨(plc r).toNat, by omega, by omega, h2⟩

/-- what Cell tells -/
def SS.cellE (s : SS) (r i : Int) : Int := if s.has r then (if 0 ≤ i ∧ i < s.words then 0 else 1) else 4
def SS.cellV (s : SS) (r i : Int) : Int := if s.has r then (if 0 ≤ i ∧ i < s.words then s.first + plc r * s.words + i else 0) else 0

theorem slab_cellof (w : World) (p pm : Nat) (r i : Int) {mv rv fv n s G} (h : SlabAt w p pm mv rv fv n s) (hr : IsW r) (ho : s.Ok G) :
    Calls Try.prog 19 #[.pointer (some ⟨p, 0, none⟩), .int .u64 r, .int .i64 i] w fun e w' => e = .returned (.tuple #[.int .i64 (s.cellV r i), .int .i64 (s.cellE r i)]) ∧ ∃ k, w' = w.drewN k := by
  have c2 := cell_block h.blk 2
  simp at c2
  have hn := ho.nrec
  have hbig := ho.big
  have hfit := ho.fit
  have H := Lib.hid h
  have HH := Lib.hid (slab_has w p pm r h hr (by omega))
  have HP := Lib.hid (slab_place r · hr)
  by_cases hh : s.has r = true
  · obtain ⟨q, hq, hql, _⟩ := SS.has_place hh
    have HQ := Lib.hid hq
    have HS := Lib.hid hh
    clear h hq hh
    by_cases hi : 0 ≤ i ∧ i < s.words
    · have HI := Lib.hid hi
      obtain ⟨i0, i1⟩ := hi
      have t1 : decide (i < 0) = false := by simp; omega
      have t2 : decide ((s.words : Int) ≤ i) = false := by simp; omega
      go_enter Try.func19, Try.ntmps19
      go_wp2_with (first | (go_at_call 34; refine HH.out.mono ?_; rintro e w1 ⟨rfl, k1, rfl⟩; rw [HS.out]) | (go_at_call 17; refine (HP.out _).mono ?_; rintro e w1 ⟨rfl, rfl⟩; rw [← HQ.out]) | (go_at_call 35; refine (slab_cell _ p pm q i (by exact H.out.keep ((Fr.refl [] w).drewN k1) (by simp)) (by omega) (by omega) i0 (by omega) (by omega) (by omega)).mono ?_; rintro e w1 ⟨rfl, k2, rfl⟩))
      go_ret2
      refine ⟨?_, _, rfl⟩
      rw [SS.cellE, SS.cellV, HS.out, if_pos rfl, if_pos rfl, if_pos HI.out, if_pos HI.out, ← HQ.out]
      rfl
    · have HI := Lib.hid hi
      by_cases i0 : i < 0
      all_goals first
        | have t1 : decide (i < 0) = true := by simpa using i0
        | have t1 : decide (i < 0) = false := by simpa using i0
          have t2 : decide ((s.words : Int) ≤ i) = true := by simp; omega
      all_goals
        go_enter Try.func19, Try.ntmps19
        go_wp2_with (first | (go_at_call 34; refine HH.out.mono ?_; rintro e w1 ⟨rfl, k1, rfl⟩; rw [HS.out]))
        go_ret2
        refine ⟨?_, _, rfl⟩
        rw [SS.cellE, SS.cellV, HS.out, if_pos rfl, if_pos rfl, if_neg HI.out, if_neg HI.out]
        rfl
  · have hh : s.has r = false := by simpa using hh
    have HS := Lib.hid hh
    clear h hh
    go_enter Try.func19, Try.ntmps19
    go_wp2_with (first | (go_at_call 34; refine HH.out.mono ?_; rintro e w1 ⟨rfl, k1, rfl⟩; rw [HS.out]))
    go_ret2
    refine ⟨?_, _, rfl⟩
    rw [SS.cellE, SS.cellV, HS.out]
    rfl
theorem slab_cellof_nil (w : World) (r i : Int) : Calls Try.prog 19 #[.pointer none, .int .u64 r, .int .i64 i] w fun e w' => e = .returned (.tuple #[.int .i64 0, .int .i64 1]) ∧ w = w' := by
  go_enter Try.func19, Try.ntmps19
  go_wp2
  go_ret2
  exact ⟨rfl, rfl⟩
theorem slab_free_nil (w : World) (r : Int) : Calls Try.prog 21 #[.pointer none, .int .u64 r] w fun e w' => e = .returned (.int .i64 1) ∧ w = w' := by
  go_enter Try.func21, Try.ntmps21
  go_wp2
  go_ret
  exact ⟨rfl, rfl⟩
theorem slab_alloc_nil (w : World) : Calls Try.prog 22 #[.pointer none] w fun e w' => e = .returned (.tuple #[.int .u64 0, .int .i64 1]) ∧ w = w' := by
  go_enter Try.func22, Try.ntmps22
  go_wp2
  go_ret2
  exact ⟨rfl, rfl⟩

/-- what Free does -/
def SS.free (s : SS) (r : Int) : SS := if s.has r then { s with recs := s.recs.set (plc r).toNat (gnr r, false), row := s.row ++ [(plc r).toNat] } else s
def SS.freeE (s : SS) (r : Int) : Int := if s.has r then 0 else 4

theorem int_slice : Try.prog.underlying 29 = some (.slice 3) := Try.underlying29
theorem int_info : (Try.prog.info? 3).map (fun i => (i.zero, i.size, i.bytes)) = some (some (.int .i64 0), 1, 8) := by kernel_rfl
theorem recCells_setB : ∀ (l : List (Int × Bool)) (j : Nat) (g : Int) (t t' : Bool), l[j]? = some (g, t) → recCells (l.set j (g, t')) = (recCells l).set (j * 2 + 1) (.bool t')
  | [], _, _, _, _, h => by simp at h
  | r :: l, 0, g, t, t', h => by simp at h; subst h; simp [recCells]
  | r :: l, j + 1, g, t, t', h => by
    rw [show (j + 1) * 2 + 1 = j * 2 + 1 + 1 + 1 by omega]
    simp [recCells, recCells_setB l j g t t' (by simpa using h)]
theorem recCells_setI : ∀ (l : List (Int × Bool)) (j : Nat) (g g' : Int) (t : Bool), l[j]? = some (g, t) → recCells (l.set j (g', t)) = (recCells l).set (j * 2) (.int .i64 g')
  | [], _, _, _, _, h => by simp at h
  | r :: l, 0, g, g', t, h => by simp at h; subst h; simp [recCells]
  | r :: l, j + 1, g, g', t, h => by
    rw [show (j + 1) * 2 = j * 2 + 1 + 1 by omega]
    simp [recCells, recCells_setI l j g g' t (by simpa using h)]
/-- one cell of a row is stored -/
theorem owns_set {w : World} {base e n g size : Nat} {c : Nat} {xs : List Value} (ho : w.ownsRow base e size (.slice (some ⟨g, 0, none⟩) n c) n xs) (j : Nat) (u : Value) :
    (w.setCell ⟨g, j, none⟩ u).ownsRow base e size (.slice (some ⟨g, 0, none⟩) n c) n (xs.set j u) := by
  obtain ⟨h1, h2⟩ := ho
  refine ⟨by simpa using h1, ?_⟩
  rcases h2 with ⟨h, _⟩ | ⟨g', cap, cur, hv, hg, hh, h5, h6, h7, h8⟩
  · cases h
  · simp only [Value.slice.injEq, Option.some.injEq, Addr.mk.injEq, and_true, true_and] at hv
    obtain ⟨rfl, rfl⟩ := hv
    refine Or.inr ⟨g, c, cur.setIfInBounds j u, rfl, hg, set_block hh j u, h5, h6, by simpa using h7, ?_⟩
    rw [← h8, Array.toList_setIfInBounds, List.take_set]
theorem owns_free {w : World} {base e n g size : Nat} {c : Nat} {xs : List Value} (ho : w.ownsRow base e size (.slice (some ⟨g, 0, none⟩) n c) n xs) (j : Nat) : w.frozen? ⟨g, j, none⟩ = false := by
  rcases ho.2 with ⟨h, _⟩ | ⟨g', cap, cur, hv, _, hh, _⟩
  · cases h
  · cases hv; exact free_block hh _
theorem nodup_last {l : List Nat} {o o' : Option Nat} {N : Nat} (h : (l ++ o.toList).Nodup) (hl : ∀ k ∈ l, k < N) (ho : ∀ k, o' = some k → o = some k ∨ N ≤ k) : (l ++ o'.toList).Nodup := by
  cases o' with
  | none => rw [List.nodup_append] at h; simpa using h.1
  | some k =>
    rw [List.nodup_append] at h ⊢
    refine ⟨h.1, by simp, ?_⟩
    intro a ha b hb
    simp at hb
    subst hb
    rcases ho b rfl with h1 | h1
    · subst h1; exact h.2.2 a ha b (by simp)
    · have := hl a ha; omega

theorem SlabAt.lt {w p pm mv rv fv n s} (h : SlabAt w p pm mv rv fv n s) : ∀ k ∈ SlabAt.foot p pm mv rv fv, k < w.heap.size := by
  intro k hk
  simp only [SlabAt.foot, List.mem_cons, List.mem_append, Option.mem_toList] at hk
  rcases hk with rfl | rfl | hk | hk | hk
  · exact lt_of_block h.blk
  · exact lt_of_block h.mem.blk
  · exact h.mem.lt k hk
  · exact (h.recs.lt k hk).2
  · exact h.free.lt k hk
/-- what a slab's call leaves: the slab at its place, its slices as they were, or in new blocks -/
def SlabOut (w : World) (p pm : Nat) (mv rv fv : Value) (N : Nat) (s : SS) (w' : World) : Prop :=
  ∃ fv' n, SlabAt w' p pm mv rv fv' n s ∧ n ≤ N ∧ Fr (SlabAt.foot p pm mv rv fv) w w' ∧ ∀ k, fv'.ownBlock = some k → fv.ownBlock = some k ∨ w.heap.size ≤ k
theorem SlabAt.sep' {w p pm mv rv fv n s} (h : SlabAt w p pm mv rv fv n s) {N : Nat} (hN : w.heap.size ≤ N) {fv' : Value} (ho : ∀ k, fv'.ownBlock = some k → fv.ownBlock = some k ∨ N ≤ k) : (SlabAt.foot p pm mv rv fv').Nodup := by
  have e : ∀ x : Value, SlabAt.foot p pm mv rv x = (p :: pm :: (mv.ownBlock.toList ++ rv.ownBlock.toList)) ++ x.ownBlock.toList := by intro x; simp [SlabAt.foot]
  have hs : (SlabAt.foot p pm mv rv fv).Nodup := h.sep
  rw [e] at hs ⊢
  refine nodup_last hs (fun k hk => ?_) ho
  have := h.lt k (by rw [e]; exact List.mem_append_left _ hk)
  omega
theorem SlabAt.ne {w p pm mv rv fv n s} (h : SlabAt w p pm mv rv fv n s) : p ≠ pm ∧ mv.ownBlock ≠ some p ∧ rv.ownBlock ≠ some p ∧ fv.ownBlock ≠ some p ∧ rv.ownBlock ≠ some pm ∧ fv.ownBlock ≠ some pm ∧
    (∀ k, rv.ownBlock = some k → mv.ownBlock ≠ some k ∧ fv.ownBlock ≠ some k) ∧ (∀ k, fv.ownBlock = some k → mv.ownBlock ≠ some k) := by
  have hs := h.sep
  simp only [List.nodup_cons, List.mem_cons, List.mem_append, Option.mem_toList, not_or, List.nodup_append] at hs
  obtain ⟨⟨a1, a2, a3, a4⟩, ⟨b1, b2, b3⟩, c1, ⟨d1, d2, d3⟩, e1⟩ := hs
  refine ⟨a1, a2, a3, a4, b2, b3, fun k hk => ⟨fun hm => ?_, fun hm => ?_⟩, fun k hk hm => ?_⟩
  · exact e1 k hm k (by simp [hk]) rfl
  · exact d3 k hk k hm rfl
  · exact e1 k hm k (by simp [hk]) rfl

theorem slab_free (w : World) (p pm : Nat) (r : Int) {mv rv fv n s G} (h : SlabAt w p pm mv rv fv n s) (hr : IsW r) (ho : s.Ok G) (hrow : s.row.length ≤ 1000000) :
    Calls Try.prog 21 #[.pointer (some ⟨p, 0, none⟩), .int .u64 r] w fun e w' => e = .returned (.int .i64 (s.freeE r)) ∧ SlabOut w p pm mv rv fv n (s.free r) w' := by
  have hn := ho.nrec
  have H := Lib.hid h
  have HH := Lib.hid (slab_has w p pm r h hr (by omega))
  have HP := Lib.hid (slab_place r · hr)
  by_cases hh : s.has r = true
  · obtain ⟨q, hq, hql, hat⟩ := SS.has_place hh
    rcases owns_form h.recs with ⟨_, hn⟩ | ⟨g, c, rfl, hg, hc⟩
    · omega
    obtain ⟨r0, r1⟩ := recCells_at _ _ _ _ hat
    have d1 := h.recs.cells (g := g) rfl _ _ r1
    have e1 := owns_free h.recs (q * 2 + 1)
    simp only [Addr.add_lit, Nat.zero_add] at d1
    have c3 := cell_block h.blk 3
    have c4 := cell_block h.blk 4
    simp at c3 c4
    have hne := h.ne
    have hgp : ¬ g = p := fun e => hne.2.2.1 (by simp [Value.ownBlock, e])
    have hgf : fv.ownBlock ≠ some g := (hne.2.2.2.2.2.2.1 g rfl).2
    have HNE := Lib.hid hne
    have HQ := Lib.hid hq
    have HS := Lib.hid hh
    have HAT := Lib.hid hat
    clear h hq hh hat r0 r1 hne
    go_enter Try.func21, Try.ntmps21
    go_wp2_with (first | (go_at_call 34; refine HH.out.mono ?_; rintro e w1 ⟨rfl, k1, rfl⟩; rw [HS.out]) | (go_at_call 17; refine (HP.out _).mono ?_; rintro e w1 ⟨rfl, rfl⟩; rw [← HQ.out]) | (at_builtin; refine wpList_append_any rfl (.tmp 25) (.tmp 27) 29 3 (.int .i64 0) 1 8 rfl int_slice int_info rfl (by decide) fv s.row.length (s.row.map fun (q : Nat) => Value.int .i64 q) rfl ?own _ 1 [.int .i64 q] rfl ?src (one_int _ _) (by unfold maxLen; omega) (by omega) ?app))
    case own => exact ((H.out.free.keep ((Fr.refl [] w).drewN k1) (by simp)).other ⟨g, q * 2 + 1, none⟩ hgf _).alloc _
    case src => exact lies_one _ _ _ _ (by simp)
    case app =>
    intro fv' w1 hown hfr hat
    have hF0 : Fr [g] w (((w.drewN k1).setCell ⟨g, q * 2 + 1, none⟩ (.bool false)).alloc (.cells #[.int .i64 q] 3)) := (((Fr.refl _ w).drewN k1).setCell (Or.inl (by simp)) _).alloc _
    have h := H.out
    have hne := HNE.out
    have hF1 : Fr (g :: fv.ownBlock.toList) w w1 := (hF0.mono (by intro k hk; simp at hk; simp [hk])).trans hfr (by intro k hk; exact Or.inl (by simp at hk ⊢; exact Or.inr hk))
    have hat' : ∀ k, fv'.ownBlock = some k → fv.ownBlock = some k ∨ w.heap.size ≤ k := fun k hk => (hat k hk).elim Or.inl (fun h => Or.inr (by first | omega | (simp at h; omega)))
    have hb := hF1.keep h.blk (by simp; exact ⟨fun e => hgp e.symm, hne.2.2.2.1⟩)
    have c3' := cell_block hb 3
    have c4' := cell_block hb 4
    have f4' := free_block hb 4
    simp at c3' c4'
    have hplt := lt_of_block h.blk
    have hfp : fv'.ownBlock ≠ some p := fun e => (hat' p e).elim hne.2.2.2.1 (fun h => by omega)
    have hfin : SlabOut w p pm mv (.slice (some ⟨g, 0, none⟩) s.recs.length c) fv n (s.free r) (w1.setCell ⟨p, 4, none⟩ fv') := by
      refine ⟨fv', n, ?_, Nat.le_refl _, ?_, hat'⟩
      · have hs : s.free r = { s with recs := s.recs.set q (gnr r, false), row := s.row ++ [q] } := by
          rw [SS.free, HS.out, if_pos rfl, ← HQ.out, Int.toNat_natCast]
        rw [hs]
        refine ⟨by simpa using set_block hb 4 fv', ?_, ?_, ?_, h.sep' (Nat.le_refl _) hat'⟩
        · refine (h.mem.keep hF1 ?_ ?_).keep ((Fr.refl [p] w1).setCell (Or.inl (by simp)) _) (by simpa using hne.1.symm) (by intro k hk; simp; intro e; subst e; exact hne.2.1 hk)
          · simp; exact ⟨fun e => hne.2.2.2.2.1 (by simp [Value.ownBlock, e]), hne.2.2.2.2.2.1⟩
          · intro k hk; simp; exact ⟨fun e => (hne.2.2.2.2.2.2.1 g rfl).1 (by rw [hk, e]), fun e => hne.2.2.2.2.2.2.2 k e hk⟩
        · have h1 := owns_set (w := w.drewN k1) h.recs (q * 2 + 1) (.bool false)
          rw [← recCells_setB _ _ _ _ false HAT.out] at h1
          have h2 := ownsRow_fr (hfr : Fr _ _ _) (h1.alloc (.cells #[.int .i64 q] 3)) (by intro k hk; simp [Value.ownBlock] at hk; subst hk; simpa using hgf)
          have h3 := ownsRow_setCell_other h2 (a := ⟨p, 4, none⟩) (by simp [Value.ownBlock]; exact hgp) fv'
          simpa using h3
        · have := hown.other ⟨p, 4, none⟩ hfp fv'
          simpa using this
      · refine (hF1.mono ?_).setCell (Or.inl (by simp [SlabAt.foot])) _
        intro k hk
        refine Or.inl ?_
        simp [SlabAt.foot, Value.ownBlock] at hk ⊢
        rcases hk with rfl | hk
        · simp
        · simp [hk]
    have HFIN := Lib.hid hfin
    obtain ⟨fs, fc, rfl, _⟩ := hown.form
    clear hown hfr hat hF0 hF1 hat' hb hfin h hne c3 c4 d1 e1
    go_wp2
    go_ret
    refine ⟨?_, by exact HFIN.out⟩
    rw [SS.freeE, HS.out]
    rfl
  · have hh : s.has r = false := by simpa using hh
    have HS := Lib.hid hh
    clear h hh
    go_enter Try.func21, Try.ntmps21
    go_wp2_with (first | (go_at_call 34; refine HH.out.mono ?_; rintro e w1 ⟨rfl, k1, rfl⟩; rw [HS.out]))
    go_ret
    rw [SS.freeE, SS.free, HS.out]
    exact ⟨rfl, fv, n, H.out.keep ((Fr.refl [] w).drewN k1) (by simp), Nat.le_refl _, (Fr.refl _ w).drewN k1, fun k hk => Or.inl hk⟩
end Go.Proofs.Ytkampbbginamhaa
