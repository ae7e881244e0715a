/- HOW MANY OF WHAT WAS TOLD ARE TAKEN, AND THEIR CELLS: plain facts -/
import Derived.Test.YtkampbbginamhaaSlabOnce0
namespace Go.Proofs.Ytkampbbginamhaa
open Go.RowKit
set_option linter.unusedVariables false
set_option linter.unusedSimpArgs false

theorem four_parts {α : Type} (f : α → Nat) : ∀ (l : List α), (∀ x ∈ l, f x < 4) → l.length = (l.filter (fun x => f x == 0)).length + (l.filter (fun x => f x == 1)).length + (l.filter (fun x => f x == 2)).length + (l.filter (fun x => f x == 3)).length
  | [], _ => rfl
  | x :: l, h => by
    have ih := four_parts f l (fun y hy => h y (List.mem_cons_of_mem _ hy))
    have hx := h x (by simp)
    rcases (by omega : f x = 0 ∨ f x = 1 ∨ f x = 2 ∨ f x = 3) with e | e | e | e <;> simp [List.filter_cons, e] <;> omega
theorem nodup_part (q : Nat) : ∀ (l : List Nat), l.Nodup → (l.filter (fun x => x == q)).length = if q ∈ l then 1 else 0
  | [], _ => by simp
  | x :: l, h => by
    rw [List.nodup_cons] at h
    have ih := nodup_part q l h.2
    by_cases e : x = q
    · subst e
      rw [if_neg h.1] at ih
      have ih' := List.length_eq_zero_iff.1 ih
      simp [List.filter_cons, ih']
    · have e' : ¬ q = x := fun h => e h.symm
      have e2 : (x == q) = false := by simpa using e
      rw [List.filter_cons, e2]
      simp only [List.mem_cons, e', false_or]
      exact ih
theorem range_part (g : Nat) (h : 1 ≤ g) : ((List.range g).filter (fun i => decide (g = i + 1))).length = 1 := by
  obtain ⟨n, rfl⟩ : ∃ n, g = n + 1 := ⟨g - 1, by omega⟩
  rw [List.range_succ, List.filter_append]
  have : (List.range n).filter (fun i => decide (n + 1 = i + 1)) = [] := by
    rw [List.filter_eq_nil_iff]; intro i hi; rw [List.mem_range] at hi; simp; omega
  rw [this]; simp
def alive (s : SS) (L : List Int) (j : Nat) : Nat := ((L.take j).filter (fun x => s.has x)).length
theorem alive_next {s : SS} {L : List Int} {j : Nat} {x : Int} (h : L[j]? = some x) : alive s L (j + 1) = if s.has x = true then alive s L j + 1 else alive s L j := by
  unfold alive
  rw [take_next h, List.filter_append, List.length_append]
  cases e : s.has x <;> simp [List.filter_cons, e]
theorem has_mkr {s : SS} {q : Nat} {g : Int} {t : Bool} (hq : q ≤ 65536) (hg : s.recs[q]? = some (g, t)) (i : Nat) : s.has (mkr q (i + 1)) = (decide (g = (i : Int) + 1) && t) := by
  have h0 : plc (mkr q ((i : Int) + 1)) = q := plc_mkr (by omega) (by omega)
  have h2 : gnr (mkr q ((i : Int) + 1)) = (i : Int) + 1 := gnr_mkr (by omega) (by omega)
  rw [SS.has_in h0.symm hg, h2]
theorem Hist.swap {s : SS} {L : List Int} (h : Hist s L) (q : Nat) : (L.filter (fun x => s.has x)).filter (fun x => (plc x).toNat == q) = (L.filter (fun x => plc x == (q : Int))).filter (fun x => s.has x) := by
  rw [List.filter_filter, List.filter_filter]
  apply List.filter_congr
  intro x hx
  have h0 := h.pl x hx
  have h1 : ((plc x).toNat == q) = (plc x == (q : Int)) := by
    by_cases e : plc x = q
    · have e2 : (plc x).toNat = q := by omega
      rw [beq_iff_eq.2 e, beq_iff_eq.2 e2]
    · have e2 : ¬ (plc x).toNat = q := by omega
      rw [beq_eq_false_iff_ne.2 e, beq_eq_false_iff_ne.2 e2]
  rw [h1, Bool.and_comm]
theorem part_none (f : Nat → Bool) (n : Nat) (h : ∀ i, f i = false) : ((List.range n).filter f).length = 0 := by
  rw [List.length_eq_zero_iff, List.filter_eq_nil_iff]
  intro i _
  rw [h i]; exact Bool.false_ne_true
theorem part_one (f : Nat → Bool) (g : Int) (hg : 1 ≤ g) (h : ∀ i : Nat, f i = decide (g = (i : Int) + 1)) : ((List.range g.toNat).filter f).length = 1 := by
  refine Eq.trans ?_ (range_part g.toNat (by omega))
  congr 1
  apply List.filter_congr
  intro i _
  rw [h i, decide_eq_decide]; omega
theorem filter_map_len (p : Int → Bool) (m : Nat → Int) (l : List Nat) : ((l.map m).filter p).length = (l.filter (fun i => p (m i))).length := by
  rw [List.filter_map, List.length_map]; rfl
theorem Hist.part {s : SS} {L : List Int} (h : Hist s L) (hM : s.recs.length ≤ 65536) (q : Nat) (hq : q < s.recs.length) : ((L.filter (fun x => s.has x)).filter (fun x => (plc x).toNat == q)).length = if q ∈ s.row then 0 else 1 := by
  rw [h.swap q, h.hist q hq, filter_map_len]
  obtain ⟨⟨g, t⟩, hg⟩ : ∃ x, s.recs[q]? = some x := ⟨_, List.getElem?_eq_getElem hq⟩
  rw [SS.gen_of hg]
  have hh := has_mkr (s := s) (by omega : q ≤ 65536) hg
  cases t with
  | false =>
    rw [if_pos ((h.tk q).2 ⟨g, hg⟩)]
    exact part_none _ _ (fun i => (hh i).trans (Bool.and_false _))
  | true =>
    have hm : q ∉ s.row := fun hm => by obtain ⟨g', hg'⟩ := (h.tk q).1 hm; rw [hg] at hg'; cases hg'
    rw [if_neg hm]
    exact part_one _ g (h.pos q g hg) (fun i => (hh i).trans (Bool.and_true _))
theorem Hist.alive {s : SS} {L : List Int} (h : Hist s L) (hM : s.recs.length = 4) (hr : ∀ p ∈ s.row, p < s.recs.length) : alive s L L.length + s.row.length = 4 := by
  have h1 := four_parts (fun x => (plc x).toNat) (L.filter (fun x => s.has x)) (fun x hx => by have := h.pl x ((List.mem_filter.1 hx).1); omega)
  have h2 := four_parts (fun x => x) s.row (fun x hx => by have := hr x hx; omega)
  rw [h.part (by omega) 0 (by omega), h.part (by omega) 1 (by omega), h.part (by omega) 2 (by omega), h.part (by omega) 3 (by omega)] at h1
  rw [nodup_part 0 _ h.nd, nodup_part 1 _ h.nd, nodup_part 2 _ h.nd, nodup_part 3 _ h.nd] at h2
  unfold Go.Proofs.Ytkampbbginamhaa.alive
  rw [List.take_length, h1, h2]
  by_cases e0 : 0 ∈ s.row <;> by_cases e1 : 1 ∈ s.row <;> by_cases e2 : 2 ∈ s.row <;> by_cases e3 : 3 ∈ s.row <;> simp [e0, e1, e2, e3]

theorem cnt_step (L : List Int) (p j : Nat) : cnt L j p ≤ cnt L (j + 1) p := by
  cases e : L[j]? with
  | some x => rw [cnt_next e p]; split <;> omega
  | none =>
    unfold cnt
    rw [List.take_add_one, e]
    simp
theorem cnt_mono (L : List Int) (p i : Nat) : ∀ d, cnt L i p ≤ cnt L (i + d) p
  | 0 => Nat.le_refl _
  | d + 1 => Nat.le_trans (cnt_mono L p i d) (cnt_step L p (i + d))
def seenF (s : SS) (L : List Int) (j n : Nat) : Bool := (L.take j).any (fun x => s.has x && (decide (3 + 3 * (plc x).toNat ≤ n) && decide (n < 3 + 3 * (plc x).toNat + 3)))
def seenK (s : SS) (L : List Int) (j F kk n : Nat) : Bool := seenF s L j n || (decide (F ≤ n) && decide (n < F + kk))
theorem seenK_zero (s : SS) (L : List Int) (j F : Nat) : seenK s L j F 0 = seenF s L j := by
  funext n
  unfold seenK
  have : (decide (F ≤ n) && decide (n < F + 0)) = false := by rw [Bool.and_eq_false_iff]; simp; omega
  rw [this, Bool.or_false]
theorem seenK_next (s : SS) (L : List Int) (j F kk : Nat) : seenK s L j F (kk + 1) = fun n => seenK s L j F kk n || n == F + kk := by
  funext n
  unfold seenK
  rw [Bool.or_assoc]
  congr 1
  rw [Bool.eq_iff_iff]; simp; omega
theorem seenF_no {s : SS} {L : List Int} {j : Nat} {x : Int} (h : L[j]? = some x) (hh : s.has x = false) : seenF s L (j + 1) = seenF s L j := by
  funext n
  unfold seenF
  rw [take_next h, List.any_append]
  simp [hh]
theorem seenF_yes {s : SS} {L : List Int} {j q : Nat} {x : Int} (h : L[j]? = some x) (hh : s.has x = true) (hp : plc x = q) : seenF s L (j + 1) = seenK s L j (3 + 3 * q) 3 := by
  funext n
  unfold seenK seenF
  rw [take_next h, List.any_append]
  congr 1
  simp [hh, hp]
theorem Hist.unseen {s : SS} {L : List Int} (h : Hist s L) (hM : s.recs.length ≤ 65536) {j q : Nat} {x : Int} (hx : L[j]? = some x) (hh : s.has x = true) (hp : plc x = q) (kk : Nat) (hk : kk < 3) : seenK s L j (3 + 3 * q) kk (3 + 3 * q + kk) = false := by
  unfold seenK
  rw [Bool.or_eq_false_iff]
  refine ⟨?_, by rw [Bool.and_eq_false_iff]; simp⟩
  unfold seenF
  rw [List.any_eq_false]
  intro y hy hc
  simp only [Bool.and_eq_true, decide_eq_true_eq] at hc
  obtain ⟨hhy, h1, h2⟩ := hc
  obtain ⟨i, hi⟩ := List.getElem?_of_mem hy
  rw [List.getElem?_take] at hi
  split at hi
  · rename_i hij
    have hmy : y ∈ L := List.mem_of_getElem? hi
    have hpy := h.pl y hmy
    have hpq : plc y = q := by omega
    obtain ⟨q1, a1, a2, a3⟩ := SS.has_place hh
    obtain ⟨q2, b1, b2, b3⟩ := SS.has_place hhy
    have e1 : q1 = q := by omega
    have e2 : q2 = q := by omega
    subst e1
    subst e2
    rw [a3] at b3
    simp at b3
    have o1 := (h.once hM hx hp).2.1
    have o2 := (h.once hM hi hpq).2.1
    have n1 := cnt_next hi q2
    rw [if_pos hpq] at n1
    have n2 := cnt_mono L q2 (i + 1) (j - (i + 1))
    rw [show i + 1 + (j - (i + 1)) = j by omega] at n2
    omega
  · cases hi
def boolArr (f : Nat → Bool) : Array Value := ((List.range 15).map (fun n => Value.bool (f n))).toArray
theorem boolArr_at (f : Nat → Bool) (m : Nat) (h : m < 15) : (boolArr f)[m]? = some (.bool (f m)) := by
  unfold boolArr
  rw [List.getElem?_toArray, List.getElem?_map, List.getElem?_range h]; rfl
theorem boolArr_set (f : Nat → Bool) (m : Nat) : (boolArr f).setIfInBounds m (.bool true) = boolArr (fun n => f n || n == m) := by
  unfold boolArr
  rw [List.setIfInBounds_toArray]
  congr 1
  apply List.ext_getElem?
  intro i
  rw [List.getElem?_set, List.getElem?_map, List.getElem?_map]
  by_cases e : m = i
  · subst e
    rw [if_pos rfl]
    by_cases h : m < 15
    · rw [if_pos (by simpa using h), List.getElem?_range h]; simp
    · rw [if_neg (by simpa using h), List.getElem?_eq_none (by simp; omega)]; rfl
  · rw [if_neg e]
    have : ∀ i, (i == m) = decide (i = m) := fun i => rfl
    by_cases h : i < 15
    · rw [List.getElem?_range h]
      have e2 : (i == m) = false := by simp; omega
      simp [e2]
    · rw [List.getElem?_eq_none (by simp; omega)]; rfl
theorem boolArr_none (s : SS) (L : List Int) : boolArr (seenF s L 0) = #[.bool false, .bool false, .bool false, .bool false, .bool false, .bool false, .bool false, .bool false, .bool false, .bool false, .bool false, .bool false, .bool false, .bool false, .bool false] := rfl
theorem SS.has_cell {s : SS} {r : Int} {q : Nat} (h : s.has r = true) (hp : plc r = q) (hw : s.words = 3) (hf : s.first = 3) (kk : Nat) (hk : kk < 3) : s.cellE r kk = 0 ∧ s.cellV r kk = ((3 + 3 * q + kk : Nat) : Int) := by
  constructor
  · rw [SS.cellE, h, if_pos rfl, if_pos (by omega)]
  · rw [SS.cellV, h, if_pos rfl, if_pos (by omega), hw, hf, hp]
    omega
end Go.Proofs.Ytkampbbginamhaa
