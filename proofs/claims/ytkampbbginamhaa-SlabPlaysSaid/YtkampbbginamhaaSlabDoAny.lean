/- CONTRACT OF impostlaw02.do, any deed; and what deeds keep -/
import Derived.Test.YtkampbbginamhaaSlabDo4
namespace Go.Proofs.Ytkampbbginamhaa
open Go.RowKit
set_option linter.unusedVariables false
set_option linter.unusedSimpArgs false

theorem SBoth.mono {w V FT N K s L N' K'} (h : SBoth w V FT N K s L) (hN : N ≤ N') (hK : K ≤ K') : SBoth w V FT N' K' s L := by
  obtain ⟨p, pm, mv, rv, fv, nn, mx, gx, tx, fx, k, lv, h1, h2, hs, hnn, hrf, hl, hap⟩ := h
  exact ⟨p, pm, mv, rv, fv, nn, mx, gx, tx, fx, k, lv, h1, h2, hs, by omega, ⟨hrf.cells, hrf.gens, hrf.taken, hrf.free, hrf.k0, by have := hrf.kK; omega⟩, hl, hap⟩
theorem DoOut.mono {w FT N K s L N' K' e w'} (h : DoOut w FT N K s L e w') (hN : N ≤ N') (hK : K ≤ K') : DoOut w FT N' K' s L e w' := by
  obtain ⟨V', FT', he, hb, hf, hn⟩ := h
  exact ⟨V', FT', he, hb.mono hN hK, hf, hn⟩

theorem do_any (w : World) (kind i n v raw : Int) {V : Value} {FT : List Nat} {N K : Nat} {s : SS} {L : List Int} {G : Int} (h : SBoth w V FT N K s L) (ho : s.Ok G) (hG : G ≤ 100000) (hN : N ≤ 10000000) (hK : K ≤ 10000000) (hrow : s.row.length ≤ 1000000) (hL : L.length ≤ 100000) (n0 : 0 ≤ n) (n1 : n ≤ 255)
    (hraw : IsW raw) (hW : ∀ x ∈ L, IsW x) :
    Calls Try.prog 11 #[V, .agg #[.int .i64 kind, .int .i64 i, .int .u8 n, .int .u64 v, .int .u64 raw]] w (DoOut w FT (N + s.words) (K + s.words) (s.deedS L kind i n v raw) (s.deedL L kind)) := by
  by_cases h1 : kind = 1
  · subst h1
    exact do_1 w i n v raw h ho hG hN hK hrow hL n0 n1
  have hl : s.deedL L kind = L := by rw [SS.deedL, if_neg (by simp [h1])]
  rw [hl]
  by_cases h2 : kind = 2
  · subst h2
    have e : s.deedS L 2 i n v raw = s.free (toldV L n) := by
      rw [SS.deedS, if_neg (by omega), if_pos (Or.inl rfl), SS.deedR, if_neg (by omega)]
    rw [e]
    exact (do_2 w 2 _ i n v raw h ho hN hK hrow hL n0 n1 (told_isW hW n) (Or.inl ⟨rfl, rfl⟩)).mono fun e w' h => h.mono (by omega) (by omega)
  by_cases h5 : kind = 5
  · subst h5
    have e : s.deedS L 5 i n v raw = s.free raw := by
      rw [SS.deedS, if_neg (by omega), if_pos (Or.inr rfl), SS.deedR, if_pos (by omega)]
    rw [e]
    exact (do_2 w 5 _ i n v raw h ho hN hK hrow hL n0 n1 hraw (Or.inr ⟨rfl, rfl⟩)).mono fun e w' h => h.mono (by omega) (by omega)
  by_cases h4 : kind = 4
  · subst h4
    have e : s.deedS L 4 i n v raw = (if s.cellE (toldV L n) i = 0 then { s with c := s.c.set (s.cellV (toldV L n) i).toNat v } else s) := by
      have e0 : SS.deedR L 4 n raw = toldV L n := by rw [SS.deedR, if_neg (by omega)]
      rw [SS.deedS, if_neg (by omega), if_neg (by omega), if_pos rfl, e0]
    rw [e]
    exact do_4 w i n v raw h ho hN hK hL n0 n1 (told_isW hW n)
  · have e : s.deedS L kind i n v raw = s := by rw [SS.deedS, if_neg h1, if_neg (by omega), if_neg h4]
    rw [e]
    have hr : IsW (SS.deedR L kind n raw) := by
      unfold SS.deedR
      split
      · exact hraw
      · exact told_isW hW n
    exact (do_0 w kind _ i n v raw h ho hN hK hL n0 n1 hr ⟨h1, h2, h4, h5⟩ rfl).mono fun e w' h => h.mono (by omega) (by omega)

/-- what deeds keep -/
structure Inv (M : Nat) (s : SS) (L : List Int) (j : Nat) : Prop where
  ok : s.Ok j
  row : s.row.length ≤ M + j
  len : L.length ≤ j
  word : ∀ x ∈ L, IsW x
  nrec : s.recs.length = M
theorem Inv.mono {M s L j k} (h : Inv M s L j) (hk : j ≤ k) : Inv M s L k :=
  ⟨⟨h.ok.fit, h.ok.big, h.ok.row, fun r hr => ⟨(h.ok.gen r hr).1, by have := (h.ok.gen r hr).2; omega⟩, h.ok.word⟩, by have := h.row; omega, by have := h.len; omega, h.word, h.nrec⟩
theorem zeroed_length (c : List Int) (a n : Nat) : (zeroed c a n).length = c.length := zeroed_len c a n
theorem Inv.alloc {M s L j} (h : Inv M s L j) (hM : M ≤ 65536) (hj : j ≤ 100000) : Inv M s.alloc (if s.allocE = 0 then L ++ [s.allocV] else L) (j + 1) := by
  rcases row_cases s.row with hr | ⟨q, rest, hr⟩
  · have e1 : s.alloc = s := by rw [SS.alloc, hr]
    have e2 : s.allocE = 7 := by rw [SS.allocE, hr]
    rw [e1, e2, if_neg (by omega)]
    exact h.mono (by omega)
  · have e1 : s.alloc = { s with row := rest, recs := s.recs.set q (s.gen q + 1, true), c := zeroed s.c (s.first + q * s.words) s.words } := by rw [SS.alloc, hr]
    have e2 : s.allocE = 0 := by rw [SS.allocE, hr]
    have e3 : s.allocV = mkr q (s.gen q + 1) := by rw [SS.allocV, hr]
    rw [e1, e2, if_pos rfl, e3]
    have hq := h.ok.row q (by rw [hr]; simp)
    have hg : 0 ≤ s.gen q ∧ s.gen q ≤ j := by
      rw [SS.gen, List.getD_eq_getElem?_getD, List.getElem?_eq_getElem hq]
      exact h.ok.gen _ (List.getElem_mem hq)
    have hrl := h.row
    rw [hr, List.length_cons] at hrl
    refine ⟨⟨?_, ?_, ?_, ?_, h.ok.word⟩, by show rest.length ≤ _; omega, by simp; have := h.len; omega, ?_, by simpa using h.nrec⟩
    · show s.first + (s.recs.set q _).length * s.words ≤ _
      rw [List.length_set, zeroed_length]; exact h.ok.fit
    · show (zeroed _ _ _).length ≤ _
      rw [zeroed_length]; exact h.ok.big
    · intro p hp
      show p < (s.recs.set q _).length
      rw [List.length_set]
      exact h.ok.row p (by rw [hr]; exact List.mem_cons_of_mem _ hp)
    · intro r hrm
      rcases List.mem_or_eq_of_mem_set hrm with h1 | h1
      · have := h.ok.gen r h1; omega
      · subst h1; simp only; omega
    · intro x hx
      rcases List.mem_append.1 hx with h1 | h1
      · exact h.word x h1
      · simp at h1; subst h1
        have := h.nrec
        exact mkr_isW (by omega) (by omega) (by omega) (by omega)
theorem Inv.free {M s L j} (h : Inv M s L j) (r : Int) : Inv M (s.free r) L (j + 1) := by
  unfold SS.free
  split
  · rename_i hh
    obtain ⟨q, hq, hql, hat⟩ := SS.has_place hh
    have hg := h.ok.gen _ (List.mem_of_getElem? hat)
    refine ⟨⟨by simpa using h.ok.fit, h.ok.big, ?_, ?_, h.ok.word⟩, by simp; have := h.row; omega, by have := h.len; omega, h.word, by simpa using h.nrec⟩
    · intro p hp
      simp only [List.length_set]
      rcases List.mem_append.1 hp with h1 | h1
      · exact h.ok.row p h1
      · simp at h1; rw [h1, ← hq, Int.toNat_natCast]; exact hql
    · intro x hx
      rcases List.mem_or_eq_of_mem_set hx with h1 | h1
      · have := h.ok.gen x h1; omega
      · subst h1; simp only at hg ⊢; omega
  · exact h.mono (by omega)
theorem Inv.deed {M s L j} (h : Inv M s L j) (hM : M ≤ 65536) (hj : j ≤ 100000) (kind i n v raw : Int) : Inv M (s.deedS L kind i n v raw) (s.deedL L kind) (j + 1) := by
  unfold SS.deedS SS.deedL
  by_cases h1 : kind = 1
  · simp only [h1, if_true, true_and]
    exact h.alloc hM hj
  · simp only [h1, if_false, false_and]
    split
    · exact h.free _
    split
    · split
      · refine ⟨⟨by simpa using h.ok.fit, by simpa using h.ok.big, h.ok.row, fun r hr => ⟨(h.ok.gen r hr).1, by have := (h.ok.gen r hr).2; omega⟩, h.ok.word⟩, by have := h.row; show s.row.length ≤ _; omega, by have := h.len; omega, h.word, h.nrec⟩
      · exact h.mono (by omega)
    · exact h.mono (by omega)
theorem SS.deed_words (s : SS) (L : List Int) (kind i n v raw : Int) : (s.deedS L kind i n v raw).words = s.words ∧ (s.deedS L kind i n v raw).first = s.first := by
  unfold SS.deedS
  split
  · unfold SS.alloc; split <;> exact ⟨rfl, rfl⟩
  split
  · unfold SS.free; split <;> exact ⟨rfl, rfl⟩
  split
  · split <;> exact ⟨rfl, rfl⟩
  · exact ⟨rfl, rfl⟩
theorem Inv.new (W M : Nat) (hW : 1 ≤ W) (hl : 3 + W * M ≤ 65536) : Inv M (SS.new ⟨[0, 0, 0], 0⟩ W M) [] 0 := by
  refine ⟨⟨?_, by simp [SS.new]; omega, by simp [SS.new], ?_, hW⟩, by simp [SS.new], by simp, by simp, by simp [SS.new]⟩
  · simp [SS.new, Nat.mul_comm]; omega
  · intro r hr
    simp [SS.new] at hr
    rw [hr.2]; simp
end Go.Proofs.Ytkampbbginamhaa
