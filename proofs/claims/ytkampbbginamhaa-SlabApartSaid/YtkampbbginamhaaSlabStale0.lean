/- what is stale stays so: plain facts -/
import Derived.Test.YtkampbbginamhaaSlabRan
namespace Go.Proofs.Ytkampbbginamhaa
open Go.RowKit
set_option linter.unusedVariables false
set_option linter.unusedSimpArgs false

structure Stale (r : Int) (s : SS) : Prop where
  no : s.has r = false
  gen : ∀ q : Nat, (q : Int) = plc r → q < s.recs.length → gnr r ≤ s.gen q
theorem Stale.alloc {r : Int} {s : SS} (h : Stale r s) : Stale r s.alloc := by
  rcases row_cases s.row with hrow | ⟨q0, rest, hrow⟩
  · have e1 : s.alloc = s := by rw [SS.alloc, hrow]
    rw [e1]; exact h
  · have e1 : s.alloc = { s with row := rest, recs := s.recs.set q0 (s.gen q0 + 1, true), c := zeroed s.c (s.first + q0 * s.words) s.words } := by rw [SS.alloc, hrow]
    rw [e1]
    constructor
    · by_cases hp : 0 ≤ plc r ∧ plc r < s.recs.length
      · obtain ⟨q, hq⟩ := Int.eq_ofNat_of_zero_le hp.1
        have hql : q < s.recs.length := by omega
        by_cases hqq : q0 = q
        · subst hqq
          have hat : (s.recs.set q0 (s.gen q0 + 1, true))[q0]? = some (s.gen q0 + 1, true) := by rw [set_at, if_pos rfl, if_pos hql]
          rw [SS.has_in (s := { s with row := rest, recs := s.recs.set q0 (s.gen q0 + 1, true), c := zeroed s.c (s.first + q0 * s.words) s.words }) hq.symm hat]
          have := h.gen q0 hq.symm hql
          have hne : ¬ (s.gen q0 + 1 = gnr r) := by omega
          simp [hne]
        · obtain ⟨⟨g, t⟩, hg⟩ : ∃ x, s.recs[q]? = some x := ⟨_, List.getElem?_eq_getElem hql⟩
          have hat : (s.recs.set q0 (s.gen q0 + 1, true))[q]? = some (g, t) := by rw [set_at, if_neg hqq, hg]
          rw [SS.has_in (s := { s with row := rest, recs := s.recs.set q0 (s.gen q0 + 1, true), c := zeroed s.c (s.first + q0 * s.words) s.words }) hq.symm hat, ← SS.has_in hq.symm hg]
          exact h.no
      · exact SS.has_out (by simpa using hp)
    · intro q hq hql
      have hql : q < s.recs.length := by simpa using hql
      have h1 := h.gen q hq hql
      by_cases hqq : q0 = q
      · subst hqq
        have e4 : SS.gen { s with row := rest, recs := s.recs.set q0 (s.gen q0 + 1, true), c := zeroed s.c (s.first + q0 * s.words) s.words } q0 = s.gen q0 + 1 :=
          SS.gen_of (t := true) (by show (s.recs.set q0 _)[q0]? = _; rw [set_at, if_pos rfl, if_pos hql])
        rw [e4]; omega
      · have e4 : SS.gen { s with row := rest, recs := s.recs.set q0 (s.gen q0 + 1, true), c := zeroed s.c (s.first + q0 * s.words) s.words } q = s.gen q := by
          unfold SS.gen
          show ((s.recs.set q0 (s.gen q0 + 1, true)).getD q (0, false)).1 = _
          rw [List.getD_eq_getElem?_getD, set_at, if_neg hqq, ← List.getD_eq_getElem?_getD]
        rw [e4]; exact h1
theorem Hist.told_gen {s : SS} {L : List Int} (h : Hist s L) (hM : s.recs.length ≤ 1000000) (n : Int) (hn0 : 0 ≤ n) : ∀ q : Nat, (q : Int) = plc (toldV L n) → q < s.recs.length → gnr (toldV L n) ≤ s.gen q := by
  intro q hq hql
  unfold toldV at hq ⊢
  split at hq
  · have : plc 0 = -1 := by decide
    omega
  · rename_i hn
    rw [if_neg hn]
    rw [List.getD_eq_getElem?_getD] at hq ⊢
    have hlt : L.length - 1 - n.toNat < L.length := by omega
    rw [List.getElem?_eq_getElem hlt] at hq ⊢
    simp only [Option.getD_some] at hq ⊢
    have hm : L[L.length - 1 - n.toNat] ∈ L.filter (fun x => plc x == (q : Int)) := by
      rw [List.mem_filter]
      exact ⟨List.getElem_mem hlt, by simp [hq]⟩
    rw [h.hist q hql, List.mem_map] at hm
    obtain ⟨i, hi, he⟩ := hm
    rw [List.mem_range] at hi
    rw [← he]
    obtain ⟨⟨g, t⟩, hg⟩ : ∃ x, s.recs[q]? = some x := ⟨_, List.getElem?_eq_getElem hql⟩
    have h0 := h.nn q _ hg
    have hgen := SS.gen_of hg
    simp only at h0
    have : gnr (mkr q (i + 1)) = i + 1 := gnr_mkr (by omega) (by omega)
    rw [this]; omega
theorem Stale.free {r : Int} {s : SS} (h : ∀ q : Nat, (q : Int) = plc r → q < s.recs.length → gnr r ≤ s.gen q) : Stale r (s.free r) := by
  unfold SS.free
  split
  · rename_i hh
    obtain ⟨q, hq, hql, hat⟩ := SS.has_place hh
    rw [← hq, Int.toNat_natCast]
    have hat' : (s.recs.set q (gnr r, false))[q]? = some (gnr r, false) := by rw [set_at, if_pos rfl, if_pos hql]
    constructor
    · rw [SS.has_in (s := { s with recs := s.recs.set q (gnr r, false), row := s.row ++ [q] }) hq hat']; simp
    · intro q' hq' hql'
      have : q' = q := by omega
      subst this
      have e4 : SS.gen { s with recs := s.recs.set q' (gnr r, false), row := s.row ++ [q'] } q' = gnr r := SS.gen_of (t := false) hat'
      rw [e4]; omega
  · rename_i hh
    exact ⟨by simpa using hh, h⟩
/-- the Both in a box of its own -/
theorem Own.box {w : World} {FT : List Nat} {p pm : Nat} {mv rv : Value} {N : Nat} {s : SS} (h : Own w FT w p pm mv rv N s) (o : Obj) : Own (w.alloc o) FT (w.alloc o) p pm mv rv N s := by
  obtain ⟨fv, n, h1, h2, h3, h4⟩ := h
  refine ⟨fv, n, h1.keep ((Fr.refl [] w).alloc o) (by simp), h2, Fr.refl _ _, fun k hk => ?_⟩
  rcases h4 k hk with h | h
  · exact Or.inl h
  · have := h1.lt k hk; omega
theorem zeroed_at (c : List Int) (a : Nat) : ∀ (n i : Nat), i < n → (zeroed c a n).getD (a + i) 0 = 0
  | 0, i, h => by omega
  | n + 1, i, h => by
    rw [zeroed, List.getD_eq_getElem?_getD, List.getElem?_set]
    by_cases e : a + n = a + i
    · rw [if_pos e]; split <;> rfl
    · rw [if_neg e, ← List.getD_eq_getElem?_getD]; exact zeroed_at c a n i (by omega)
/-- what is taken has cells of 0 -/
theorem SS.fresh {s : SS} {G : Int} {q : Nat} {rest : List Nat} (ho : s.Ok G) (hM : s.recs.length ≤ 65536) (hr : s.row = q :: rest) (i : Nat) (hi : i < s.words) :
    s.alloc.cellE s.allocV i = 0 ∧ 0 ≤ s.alloc.cellV s.allocV i ∧ s.alloc.cellV s.allocV i < s.alloc.c.length ∧ s.alloc.c.getD (s.alloc.cellV s.allocV i).toNat 0 = 0 := by
  have e1 : s.alloc = { s with row := rest, recs := s.recs.set q (s.gen q + 1, true), c := zeroed s.c (s.first + q * s.words) s.words } := by rw [SS.alloc, hr]
  have e3 : s.allocV = mkr q (s.gen q + 1) := by rw [SS.allocV, hr]
  have hq := ho.row q (by rw [hr]; simp)
  have hp : plc s.allocV = q := by rw [e3]; exact plc_mkr (by omega) (by omega)
  have hg : gnr s.allocV = s.gen q + 1 := by rw [e3]; exact gnr_mkr (by omega) (by omega)
  have hat : s.alloc.recs[q]? = some (s.gen q + 1, true) := by rw [e1]; show (s.recs.set q _)[q]? = _; rw [set_at, if_pos rfl, if_pos hq]
  have hh : s.alloc.has s.allocV = true := by rw [SS.has_in hp.symm hat, hg]; simp
  have hw : s.alloc.words = s.words := by rw [e1]
  have hf : s.alloc.first = s.first := by rw [e1]
  have hv : s.alloc.cellV s.allocV i = ((s.first + q * s.words + i : Nat) : Int) := by
    rw [SS.cellV, hh, if_pos rfl, if_pos (by rw [hw]; omega), hw, hf, hp]; simp
  have hfit := ho.fit
  have hm : q * s.words + s.words ≤ s.recs.length * s.words := by rw [← Nat.succ_mul]; exact Nat.mul_le_mul_right _ hq
  have hc : s.alloc.c = zeroed s.c (s.first + q * s.words) s.words := by rw [e1]
  refine ⟨?_, by rw [hv]; omega, by rw [hv, hc, zeroed_len]; omega, ?_⟩
  · rw [SS.cellE, hh, if_pos rfl, if_pos (by rw [hw]; omega)]
  · rw [hv, Int.toNat_natCast, hc]; exact zeroed_at _ _ _ _ hi
theorem SS.alloc_len (s : SS) : s.alloc.c.length = s.c.length := by
  unfold SS.alloc; split
  · rfl
  · exact zeroed_len _ _ _
theorem SS.words_free (s : SS) (r : Int) : (s.free r).words = s.words ∧ (s.free r).first = s.first := by unfold SS.free; split <;> exact ⟨rfl, rfl⟩
theorem SS.words_alloc (s : SS) : s.alloc.words = s.words ∧ s.alloc.first = s.first := by unfold SS.alloc; split <;> exact ⟨rfl, rfl⟩
theorem SS.cellE_no {s : SS} {r : Int} (h : s.has r = false) (i : Int) : s.cellE r i = 4 ∧ s.freeE r = 4 := by simp [SS.cellE, SS.freeE, h]
end Go.Proofs.Ytkampbbginamhaa
