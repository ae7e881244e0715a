/- WHAT WAS TOLD, AND WHAT IS TAKEN: plain facts -/
import Derived.Test.YtkampbbginamhaaSlabDoAny
namespace Go.Proofs.Ytkampbbginamhaa
open Go.RowKit
set_option linter.unusedVariables false
set_option linter.unusedSimpArgs false

structure Hist (s : SS) (L : List Int) : Prop where
  nd : s.row.Nodup
  tk : ∀ p : Nat, p ∈ s.row ↔ ∃ g : Int, s.recs[p]? = some (g, false)
  pos : ∀ (p : Nat) (g : Int), s.recs[p]? = some (g, true) → 1 ≤ g
  nn : ∀ (p : Nat) (x : Int × Bool), s.recs[p]? = some x → 0 ≤ x.1
  hist : ∀ p : Nat, p < s.recs.length → L.filter (fun x => plc x == (p : Int)) = (List.range (s.gen p).toNat).map fun (i : Nat) => mkr p (i + 1)
  pl : ∀ x ∈ L, 0 ≤ plc x ∧ plc x < s.recs.length
theorem SS.gen_of {s : SS} {p : Nat} {g : Int} {t : Bool} (h : s.recs[p]? = some (g, t)) : s.gen p = g := by
  rw [SS.gen, List.getD_eq_getElem?_getD, h]; rfl
theorem set_at {α : Type} (l : List α) (q : Nat) (x : α) (p : Nat) : (l.set q x)[p]? = if q = p then (if q < l.length then some x else none) else l[p]? := by
  rw [List.getElem?_set]
theorem Hist.alloc {s : SS} {L : List Int} (h : Hist s L) (hr : ∀ p ∈ s.row, p < s.recs.length) (hM : s.recs.length ≤ 1000000) : Hist s.alloc (if s.allocE = 0 then L ++ [s.allocV] else L) := by
  rcases row_cases s.row with hrow | ⟨q, rest, hrow⟩
  · have e1 : s.alloc = s := by rw [SS.alloc, hrow]
    have e2 : s.allocE = 7 := by rw [SS.allocE, hrow]
    rw [e1, e2, if_neg (by omega)]
    exact h
  · have e1 : s.alloc = { s with row := rest, recs := s.recs.set q (s.gen q + 1, true), c := zeroed s.c (s.first + q * s.words) s.words } := by rw [SS.alloc, hrow]
    have e2 : s.allocE = 0 := by rw [SS.allocE, hrow]
    have e3 : s.allocV = mkr q (s.gen q + 1) := by rw [SS.allocV, hrow]
    have hq := hr q (by rw [hrow]; simp)
    obtain ⟨g, hg⟩ := (h.tk q).1 (by rw [hrow]; simp)
    have hgen := SS.gen_of hg
    have hg0 := h.nn q _ hg
    simp only at hg0
    have hnd := h.nd
    rw [hrow, List.nodup_cons] at hnd
    rw [e1, e2, if_pos rfl, e3, hgen]
    have hplc : plc (mkr q (g + 1)) = q := plc_mkr (by omega) (by omega)
    refine ⟨hnd.2, fun p => ?_, fun p g' hp => ?_, fun p x hp => ?_, fun p hp => ?_, fun x hx => ?_⟩
    · show p ∈ rest ↔ ∃ g', (s.recs.set q (g + 1, true))[p]? = some (g', false)
      rw [set_at]
      by_cases hpq : q = p
      · subst hpq
        rw [if_pos rfl, if_pos hq]
        simp [hnd.1]
      · rw [if_neg hpq, ← h.tk p, hrow]
        simp only [List.mem_cons]
        exact ⟨fun h => Or.inr h, fun h => h.resolve_left (fun e => hpq e.symm)⟩
    · have hp : (s.recs.set q (g + 1, true))[p]? = some (g', true) := hp
      rw [set_at] at hp
      split at hp
      · cases hp; omega
      · exact h.pos p g' hp
    · have hp : (s.recs.set q (g + 1, true))[p]? = some x := hp
      rw [set_at] at hp
      split at hp
      · cases hp; simp only; omega
      · exact h.nn p x hp
    · have hp : p < s.recs.length := by simpa using hp
      rw [List.filter_append, h.hist p hp]
      by_cases hpq : q = p
      · subst hpq
        have e4 : SS.gen { s with row := rest, recs := s.recs.set q (g + 1, true), c := zeroed s.c (s.first + q * s.words) s.words } q = g + 1 :=
          SS.gen_of (t := true) (by show (s.recs.set q _)[q]? = _; rw [set_at, if_pos rfl, if_pos hq])
        rw [e4, hgen]
        have e5 : (g + 1).toNat = g.toNat + 1 := by omega
        rw [e5, List.range_succ, List.map_append]
        congr 1
        simp only [List.filter_cons, List.filter_nil, hplc, List.map_cons, List.map_nil, beq_self_eq_true, if_true]
        rw [show ((g.toNat : Int) + 1) = g + 1 by omega]
      · have e4 : SS.gen { s with row := rest, recs := s.recs.set q (g + 1, true), c := zeroed s.c (s.first + q * s.words) s.words } p = s.gen p := by
          unfold SS.gen
          show ((s.recs.set q (g + 1, true)).getD p (0, false)).1 = _
          rw [List.getD_eq_getElem?_getD, set_at, if_neg hpq, ← List.getD_eq_getElem?_getD]
        rw [e4]
        have e5 : (plc (mkr q (g + 1)) == (p : Int)) = false := by rw [hplc]; simp; omega
        simp [List.filter_cons, e5]
    · have hl : (s.recs.set q (g + 1, true)).length = s.recs.length := by simp
      show _ ∧ plc x < (((s.recs.set q (g + 1, true)).length : Nat) : Int)
      rw [hl]
      rcases List.mem_append.1 hx with h1 | h1
      · exact h.pl x h1
      · simp at h1; subst h1
        rw [hplc]; omega
theorem Hist.free {s : SS} {L : List Int} (h : Hist s L) (r : Int) : Hist (s.free r) L := by
  unfold SS.free
  split
  · rename_i hh
    obtain ⟨q, hq, hql, hat⟩ := SS.has_place hh
    rw [← hq, Int.toNat_natCast]
    have hqn : q ∉ s.row := fun hm => by
      obtain ⟨g, hg⟩ := (h.tk q).1 hm
      rw [hat] at hg; cases hg
    have hg0 := h.nn q _ hat
    simp only at hg0
    refine ⟨?_, fun p => ?_, fun p g' hp => ?_, fun p x hp => ?_, fun p hp => ?_, fun x hx => ?_⟩
    · show (s.row ++ [q]).Nodup
      rw [List.nodup_append]
      refine ⟨h.nd, by simp, ?_⟩
      intro a ha b hb e
      simp at hb
      subst hb; subst e
      exact hqn ha
    · show p ∈ s.row ++ [q] ↔ ∃ g', (s.recs.set q (gnr r, false))[p]? = some (g', false)
      rw [set_at]
      by_cases hpq : q = p
      · subst hpq
        rw [if_pos rfl, if_pos hql]
        simp
      · rw [if_neg hpq, ← h.tk p]
        simp only [List.mem_append, List.mem_singleton]
        exact ⟨fun h => h.resolve_right (fun e => hpq e.symm), fun h => Or.inl h⟩
    · have hp : (s.recs.set q (gnr r, false))[p]? = some (g', true) := hp
      rw [set_at] at hp
      split at hp
      · cases hp
      · exact h.pos p g' hp
    · have hp : (s.recs.set q (gnr r, false))[p]? = some x := hp
      rw [set_at] at hp
      split at hp
      · cases hp; exact hg0
      · exact h.nn p x hp
    · have hp : p < s.recs.length := by simpa using hp
      rw [h.hist p hp]
      have e4 : SS.gen { s with recs := s.recs.set q (gnr r, false), row := s.row ++ [q] } p = s.gen p := by
        unfold SS.gen
        show ((s.recs.set q (gnr r, false)).getD p (0, false)).1 = _
        rw [List.getD_eq_getElem?_getD, set_at]
        split
        · rename_i e; subst e
          rw [List.getD_eq_getElem?_getD, hat]; rfl
        · rw [← List.getD_eq_getElem?_getD]
      rw [e4]
    · have hl : (s.recs.set q (gnr r, false)).length = s.recs.length := by simp
      show _ ∧ plc x < (((s.recs.set q (gnr r, false)).length : Nat) : Int)
      rw [hl]; exact h.pl x hx
  · exact h
theorem Hist.cells {s : SS} {L : List Int} (h : Hist s L) (c : List Int) : Hist { s with c := c } L := ⟨h.nd, h.tk, h.pos, h.nn, h.hist, h.pl⟩
theorem Hist.deed {s : SS} {L : List Int} (h : Hist s L) (hr : ∀ p ∈ s.row, p < s.recs.length) (hM : s.recs.length ≤ 1000000) (kind i n v raw : Int) : Hist (s.deedS L kind i n v raw) (s.deedL L kind) := by
  unfold SS.deedS SS.deedL
  by_cases h1 : kind = 1
  · simp only [h1, if_true, true_and]
    exact h.alloc hr hM
  · simp only [h1, if_false, false_and]
    split
    · exact h.free _
    split
    · split
      · exact h.cells _
      · exact h
    · exact h
theorem Hist.new (W M : Nat) : Hist (SS.new ⟨[0, 0, 0], 0⟩ W M) [] := by
  have hat : ∀ (p : Nat) (x : Int × Bool), (List.replicate M ((0 : Int), false))[p]? = some x → p < M ∧ x = (0, false) := by
    intro p x h
    rw [List.getElem?_replicate] at h
    split at h
    · cases h; exact ⟨by assumption, rfl⟩
    · cases h
  refine ⟨List.nodup_range, fun p => ?_, fun p g hp => ?_, fun p x hp => ?_, fun p hp => ?_, by simp⟩
  · show p ∈ List.range M ↔ ∃ g, (List.replicate M ((0 : Int), false))[p]? = some (g, false)
    rw [List.mem_range]
    constructor
    · intro h; exact ⟨0, by rw [List.getElem?_replicate, if_pos h]⟩
    · rintro ⟨g, h⟩; exact (hat p _ h).1
  · have := hat p _ hp; simp at this
  · have := hat p _ hp; rw [this.2]; simp
  · have hp : p < M := by simpa [SS.new] using hp
    have : (SS.new ⟨[0, 0, 0], 0⟩ W M).gen p = 0 := SS.gen_of (t := false) (by show (List.replicate M _)[p]? = _; rw [List.getElem?_replicate, if_pos hp])
    rw [this]; rfl

/-- 4 records of 3 words, behind deeds -/
structure RInv (s : SS) (L : List Int) (j : Nat) : Prop where
  inv : Inv 4 s L j
  hist : Hist s L
  words : s.words = 3
  first : s.first = 3
  len : s.c.length = 15
theorem SS.deed_c (s : SS) (L : List Int) (kind i n v raw : Int) : (s.deedS L kind i n v raw).c.length = s.c.length := by
  unfold SS.deedS
  split
  · unfold SS.alloc
    split
    · rfl
    · exact zeroed_len _ _ _
  split
  · unfold SS.free; split <;> rfl
  split
  · split
    · simp
    · rfl
  · rfl
theorem RInv.deed {s : SS} {L : List Int} {j : Nat} (h : RInv s L j) (hj : j ≤ 100000) (kind i n v raw : Int) : RInv (s.deedS L kind i n v raw) (s.deedL L kind) (j + 1) := by
  have hw := s.deed_words L kind i n v raw
  exact ⟨h.inv.deed (by omega) hj kind i n v raw, h.hist.deed h.inv.ok.row (by have := h.inv.nrec; omega) kind i n v raw, hw.1.trans h.words, hw.2.trans h.first, (s.deed_c L kind i n v raw).trans h.len⟩
theorem RInv.new : RInv (SS.new ⟨[0, 0, 0], 0⟩ 3 4) [] 0 := ⟨Inv.new 3 4 (by omega) (by omega), Hist.new 3 4, rfl, rfl, rfl⟩
end Go.Proofs.Ytkampbbginamhaa
