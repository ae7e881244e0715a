/- HOW OFTEN A PLACE WAS TOLD: plain facts -/
import Derived.Test.YtkampbbginamhaaSlabStale0
namespace Go.Proofs.Ytkampbbginamhaa
open Go.RowKit
set_option linter.unusedVariables false
set_option linter.unusedSimpArgs false

def cnt (L : List Int) (j p : Nat) : Nat := ((L.take j).filter (fun x => plc x == (p : Int))).length
theorem cnt_zero (L : List Int) (p : Nat) : cnt L 0 p = 0 := rfl
theorem take_next {L : List Int} {j : Nat} {x : Int} (h : L[j]? = some x) : L.take (j + 1) = L.take j ++ [x] := by
  rw [List.take_add_one, h]; rfl
theorem cnt_next {L : List Int} {j : Nat} {x : Int} (h : L[j]? = some x) (p : Nat) : cnt L (j + 1) p = if plc x = p then cnt L j p + 1 else cnt L j p := by
  unfold cnt
  rw [take_next h, List.filter_append, List.length_append]
  by_cases e : plc x = p
  · rw [if_pos e]; simp [List.filter_cons, e]
  · rw [if_neg e]
    have : (plc x == (p : Int)) = false := by simpa using e
    simp [List.filter_cons, this]
theorem Hist.once {s : SS} {L : List Int} (h : Hist s L) (hM : s.recs.length ≤ 65536) {j p : Nat} {x : Int} (hx : L[j]? = some x) (hp : plc x = p) : x = mkr p (cnt L j p + 1) ∧ gnr x = cnt L j p + 1 ∧ cnt L j p < (s.gen p).toNat ∧ p < s.recs.length := by
  have hj := (List.getElem?_eq_some_iff.1 hx).1
  have hm : x ∈ L := List.mem_of_getElem? hx
  have hpl := h.pl x hm
  have hlt : p < s.recs.length := by omega
  have hh := h.hist p hlt
  have hsplit : L = L.take j ++ (x :: L.drop (j + 1)) := by
    have e : L.drop j = x :: L.drop (j + 1) := by
      rw [List.drop_eq_getElem_cons hj]
      congr 1
      exact (List.getElem?_eq_some_iff.1 hx).2
    rw [← e, List.take_append_drop]
  have hat : (L.filter (fun x => plc x == (p : Int)))[cnt L j p]? = some x := by
    have e : L.filter (fun x => plc x == (p : Int)) = (L.take j).filter (fun x => plc x == (p : Int)) ++ x :: (L.drop (j + 1)).filter (fun x => plc x == (p : Int)) := by
      conv => lhs; rw [hsplit]
      rw [List.filter_append, List.filter_cons, if_pos (by simp [hp])]
    rw [e, cnt, List.getElem?_append_right (Nat.le_refl _), Nat.sub_self]; rfl
  rw [hh, List.getElem?_map] at hat
  have hc : cnt L j p < (s.gen p).toNat := by
    rcases Nat.lt_or_ge (cnt L j p) (s.gen p).toNat with h | h
    · exact h
    · rw [List.getElem?_eq_none (by simpa using h)] at hat; cases hat
  rw [List.getElem?_range hc] at hat
  simp at hat
  have e : x = mkr p (cnt L j p + 1) := hat.symm
  exact ⟨e, by rw [e]; exact gnr_mkr (by omega) (by omega), hc, hlt⟩
end Go.Proofs.Ytkampbbginamhaa
