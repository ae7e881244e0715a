/- THE LAWS OF hist: ran: its contract -/
import Derived.Test.YtmbfcdoemcffpaaHistDo1
namespace Go.Proofs.Ytmbfcdoemcffpaa
open Go.RowKit
set_option linter.unusedVariables false
set_option linter.unusedSimpArgs false

def runH (l : List Dd) : HA := l.foldl (fun H d => stepH H d.kind d.ops d.rev) HA.zero
theorem runH_snoc {l : List Dd} {j : Nat} {d : Dd} (hx : l[j]? = some d) : runH (l.take (j + 1)) = stepH (runH (l.take j)) d.kind d.ops d.rev := by
  unfold runH
  rw [take_snoc hx, List.foldl_append]; rfl
theorem runH_ok (l : List Dd) (h : ∀ d ∈ l, d.ops.length ≤ 8) : ∀ j, j ≤ l.length → HOk (runH (l.take j)) j
  | 0, _ => HOk.zero
  | j + 1, hj => by
    have hx : l[j]? = some l[j] := List.getElem?_eq_getElem (by omega)
    rw [runH_snoc hx]
    exact stepH_ok (runH_ok l h j (by omega)) (h _ (List.getElem_mem _))
theorem LFar.of_oldw {α : Type} {cs : α → List Value} {sz : Nat} {S : List Nat} {w w' : World} {v : Value} {l : List α} (h : LIn cs sz w v l) (hf : Fr [] w w') (hS : ∀ k ∈ S, w.heap.size ≤ k) : LFar S cs sz w' v l := (LFar.of_old h hS).keep0 hf
theorem grow_two {a : Nat} {S : List Nat} {w : World} {v : Value} {rows : List (List Ev)} (h : RowsF (a :: S) w v rows) : RowsF ([a, w.heap.size] ++ S) w v rows := h.grow (fun k hk => by
  rcases List.mem_cons.1 hk with rfl | hk
  · exact Or.inl (by simp)
  · rcases List.mem_cons.1 hk with rfl | hk
    · exact Or.inr (Nat.le_refl _)
    · exact Or.inl (List.mem_cons_of_mem _ hk))
end Go.Proofs.Ytmbfcdoemcffpaa
