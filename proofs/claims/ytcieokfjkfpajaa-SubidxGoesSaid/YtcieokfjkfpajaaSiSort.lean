/- slices.Sort at a row of numbers of one's own, at any offset -/
import Derived.Test.YtcieokfjkfpajaaSiGat
import Derived.Test.YtcieokfjkfpajaaShelf
import Derived.Sort.OwnSortedInts
namespace Go.Proofs.Ytcieokfjkfpajaa
open Go.RowKit Go.Sort Go.ChangeShapes Go.WideShapes
set_option linter.unusedVariables false
set_option linter.unusedSimpArgs false

def sortI (l : List Int) : List Int := l.mergeSort fun x y => decide (x ≤ y)
theorem allI (l : List Int) : allC inC l = l.map (Value.int .i64) := by
  induction l with
  | nil => rfl
  | cons x r ih => rw [allC_cons, ih]; rfl
theorem heap_sortedO {w : World} {g off n : Nat} {os : Array Obj} {cur : Array Value} {e : TypeId} {fr : Nat × Nat} (d : Array Int) (hb : w.heap[g]? = some (.cells cur e fr)) :
    (grow (putRow (Value.int .i64) (Sort.ahead w n) g off d) os).heap[g]? = some (.cells (putCells (Value.int .i64) off d cur) e fr) := by
  have hg : g < w.heap.size := (Array.getElem?_eq_some_iff.1 hb).1
  rw [heap_grow_old _ _ (by simpa using hg)]
  simp [putRow, mapBlock, Sort.ahead, Array.getElem?_modify, hb, onCells]
theorem grownBy_sortedO {w : World} {g off n : Nat} {os : Array Obj} (d : Array Int) : w.grownBy (grow (putRow (Value.int .i64) (Sort.ahead w n) g off d) os) (some g) := by
  refine ⟨rfl, rfl, rfl, by simp, fun k hk hne => ?_⟩
  rw [heap_grow_old _ _ (by simpa using hk)]
  have : g ≠ k := fun e => hne (by rw [e])
  simp [putRow, mapBlock, Sort.ahead, Array.getElem?_modify, this]
theorem sort_own {w0 w : World} {v : Value} {o : List Int} (h : OutAt inC 3 1 w0 w v o) (hl : o.length ≤ 100000) (h0 : Fr [] w0 w) :
    Calls Try.prog 26 #[v] w fun e w' => e = .returned (.tuple #[]) ∧ OutAt inC 3 1 w0 w' v (sortI o) ∧ Fr [] w0 w' := by
  have hperm := List.mergeSort_perm o (fun x y => decide (x ≤ y))
  rcases h.lies.2 with ⟨rfl, hn⟩ | ⟨g, off, cap, cur, rfl, hg, h5, h6, h7, h8⟩
  · obtain rfl : o = [] := List.eq_nil_of_length_eq_zero hn
    refine (Try.slices_Sort_int_none none 0 w).mono ?_
    rintro e w1 ⟨rfl, rfl⟩
    exact ⟨rfl, by rw [show sortI [] = [] from by simp [sortI]]; exact OutAt.nil _ _, h0⟩
  · have hH : Sort.Holds (Value.int .i64) w g off o.toArray := by
      intro j hj
      have hj' : j < o.length := by simpa using hj
      have h9 := h8 j (by omega)
      rw [allI] at h9
      refine ⟨?_, free_block hg _⟩
      rw [cell_block hg, h9]
      simp [hj']
    refine (Try.slices_Sort_int g off cap o w hH (lt_of_block hg) (by omega)).mono ?_
    rintro e w1 ⟨rfl, n1, os, rfl⟩
    have hlen : (sortI o).length = o.length := hperm.length_eq
    refine ⟨rfl, ⟨?_, fun k hk => h.new k hk⟩, h0.trans (Fr.of_grown (row := some g) (grownBy_sortedO _)) ?_⟩
    · unfold LAt
      rw [hlen]
      refine ⟨by rw [allI, List.length_map, hlen, Nat.mul_one], Or.inr ⟨g, off, cap, _, rfl, heap_sortedO _ hg, h5, h6, by simp [putCells]; omega, fun j hj => ?_⟩⟩
      rw [allI]
      have hjs : j < (sortI o).length := by omega
      unfold sortI at hjs ⊢
      simp [putCells, hjs, show off + j < cur.size by omega]
      rw [if_pos (by omega), List.getElem?_eq_getElem hjs]
      rfl
    · intro k hk; simp at hk; subst hk; right; exact h.new _ rfl
theorem sortI_strict {l : List Int} (h : l.Nodup) : (sortI l).Pairwise (· < ·) := by
  have h1 := List.pairwise_mergeSort (le := fun x y : Int => decide (x ≤ y)) (fun a b c h1 h2 => by simp at h1 h2 ⊢; omega) (fun a b => by simp; omega) l
  have h2 : (sortI l).Nodup := (List.mergeSort_perm l _).nodup_iff.2 h
  refine (List.pairwise_and_iff.2 ⟨h1, h2⟩).imp ?_
  intro a b ⟨h3, h4⟩
  simp at h3
  have : a ≠ b := h4
  omega
theorem sortI_mem {l : List Int} {x : Int} : x ∈ sortI l ↔ x ∈ l := (List.mergeSort_perm l _).mem_iff
theorem strict_unique : ∀ {l r : List Int}, l.Pairwise (· < ·) → r.Pairwise (· < ·) → (∀ x, x ∈ l ↔ x ∈ r) → l = r
  | [], [], _, _, _ => rfl
  | [], y :: r, _, _, h => absurd ((h y).2 List.mem_cons_self) (by simp)
  | x :: l, [], _, _, h => absurd ((h x).1 List.mem_cons_self) (by simp)
  | x :: l, y :: r, hl, hr, h => by
    obtain ⟨l1, l2⟩ := List.pairwise_cons.1 hl
    obtain ⟨r1, r2⟩ := List.pairwise_cons.1 hr
    have hxy : x = y := by
      rcases List.mem_cons.1 ((h x).1 List.mem_cons_self) with e | hx
      · exact e
      · rcases List.mem_cons.1 ((h y).2 List.mem_cons_self) with e | hy
        · exact e.symm
        · have := l1 y hy; have := r1 x hx; omega
    subst hxy
    rw [strict_unique l2 r2 fun z => ?_]
    constructor
    · intro hz
      rcases List.mem_cons.1 ((h z).1 (List.mem_cons_of_mem _ hz)) with e | h'
      · subst e; have := l1 z hz; omega
      · exact h'
    · intro hz
      rcases List.mem_cons.1 ((h z).2 (List.mem_cons_of_mem _ hz)) with e | h'
      · subst e; have := r1 z hz; omega
      · exact h'
end Go.Proofs.Ytcieokfjkfpajaa
