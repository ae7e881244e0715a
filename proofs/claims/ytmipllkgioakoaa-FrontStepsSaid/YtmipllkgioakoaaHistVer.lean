/- GENERIC: PIECES OF A ROW THAT IS READ
PACKAGE slices: Clone of events: contracts
PACKAGE hist: a key's versions, gone through backward: contracts of backward, at, from -/
import Derived.Test.YtmipllkgioakoaaIn
import Derived.Test.YtmipllkgioakoaaEvSel
import Derived.WalkSpells
import Derived.Test.YtmipllkgioakoaaRangeF
import Derived.Test.YtmipllkgioakoaaEvAt
namespace Go.Proofs.Ytmipllkgioakoaa
open Go.RowKit
set_option linter.unusedVariables false
set_option linter.unusedSimpArgs false

/-! pieces of a row that is read -/
theorem LIn.take {α : Type} {cs : α → List Value} {sz : Nat} {w : World} {s : Option Addr} {c n k : Nat} {l : List α} (h : LIn cs sz w (.slice s n c) l) (hk : k ≤ l.length) : LIn cs sz w (.slice s k c) (l.take k) := by
  obtain ⟨a, c', h1, h2, h3, h4⟩ := h
  cases h1
  have hlen : (l.take k).length = k := by rw [List.length_take]; omega
  refine ⟨s, c, by rw [hlen], by omega, h3, fun hl => ?_⟩
  obtain ⟨g, off, h5, h6, h7⟩ := h4 (by omega)
  refine ⟨g, off, h5, h6, fun i x hx j hj => h7 i x ?_ j hj⟩
  rw [List.getElem?_take] at hx
  split at hx
  · exact hx
  · cases hx
theorem LIn.drop {α : Type} {cs : α → List Value} {sz : Nat} {w : World} {g off off' c n k m : Nat} {l : List α} (h : LIn cs sz w (.slice (some ⟨g, off, none⟩) n c) l) (hm : l.length = m + k) (ho : CutAt off k sz c off') (hg : g < w.heap.size) : LIn cs sz w (.slice (some ⟨g, off', none⟩) m (c - k)) (l.drop k) := by
  obtain ⟨a, c', h1, h2, h3, h4⟩ := h
  cases h1
  have hlen : (l.drop k).length = m := by rw [List.length_drop]; omega
  refine ⟨_, c - k, by rw [hlen], by omega, by omega, fun hl => ⟨g, off', rfl, hg, fun i x hx j hj => ?_⟩⟩
  obtain ⟨g', off2, h5, h6, h7⟩ := h4 (by omega)
  cases h5
  rcases ho with rfl | ⟨rfl, rfl⟩
  · have := h7 (k + i) x (by rw [List.getElem?_drop] at hx; exact hx) j hj
    rw [← this]
    congr 2
    rw [Nat.add_mul]; omega
  · omega
end Go.Proofs.Ytmipllkgioakoaa
namespace Go.Proofs.Ytmipllkgioakoaa
open Go.RowKit
set_option linter.unusedVariables false
set_option linter.unusedSimpArgs false

end Go.Proofs.Ytmipllkgioakoaa
namespace Go.Proofs.Ytmipllkgioakoaa
open Go.RowKit Go.Shelf
set_option linter.unusedVariables false
set_option linter.unusedSimpArgs false
attribute [local go_sem] Oper.semAt_some

theorem set4_block {w : World} {b : Nat} {a0 a1 a2 a3 : Value} {t : TypeId} {f : Nat × Nat} (h : w.heap[b]? = some (.cells #[a0, a1, a2, a3] t f)) (v0 v1 v2 v3 : Value) :
    ((((w.setCell ⟨b, 0, none⟩ v0).setCell ⟨b, 1, none⟩ v1).setCell ⟨b, 2, none⟩ v2).setCell ⟨b, 3, none⟩ v3).heap[b]? = some (.cells #[v0, v1, v2, v3] t f) := by
  have h3 := set_block (set_block (set_block (set_block h 0 v0) 1 v1) 2 v2) 3 v3
  simpa using h3
theorem set4_other {w : World} {b c : Nat} {o : Obj} (h : w.heap[c]? = some o) (hn : c ≠ b) (v0 v1 v2 v3 : Value) :
    ((((w.setCell ⟨b, 0, none⟩ v0).setCell ⟨b, 1, none⟩ v1).setCell ⟨b, 2, none⟩ v2).setCell ⟨b, 3, none⟩ v3).heap[c]? = some o :=
  set_other (set_other (set_other (set_other h hn 0 v0) hn 1 v1) hn 2 v2) hn 3 v3
theorem set4_keeps (w : World) (b : Nat) (v0 v1 v2 v3 : Value) : KeepsOthers w ((((w.setCell ⟨b, 0, none⟩ v0).setCell ⟨b, 1, none⟩ v1).setCell ⟨b, 2, none⟩ v2).setCell ⟨b, 3, none⟩ v3) :=
  (((KeepsOthers.setCell _ _ _).trans (KeepsOthers.setCell _ _ _)).trans (KeepsOthers.setCell _ _ _)).trans (KeepsOthers.setCell _ _ _)
theorem find_at {α : Type} {p : α → Bool} : ∀ {l : List α} {j : Nat} {x : α}, l[j]? = some x → p x = true → (∀ i, i < j → ∀ y, l[i]? = some y → p y = false) → l.find? p = some x
  | [], j, x, h, _, _ => by simp at h
  | a :: r, 0, x, h, hp, _ => by simp at h; subst h; simp [hp]
  | a :: r, j + 1, x, h, hp, hn => by
    have h0 := hn 0 (by omega) a (by simp)
    rw [List.find?_cons_of_neg (by simp [h0])]
    exact find_at (by simpa using h) hp (fun i hi y hy => hn (i + 1) (by omega) y (by simpa using hy))
theorem find_no {α : Type} {p : α → Bool} {l : List α} (h : ∀ i, i < l.length → ∀ y, l[i]? = some y → p y = false) : l.find? p = none := by
  rw [List.find?_eq_none]
  intro x hx
  obtain ⟨i, hi⟩ := List.mem_iff_getElem?.1 hx
  have := h i (List.getElem?_eq_some_iff.1 hi).1 x hi
  simp [this]
/-- a key's version at a revision -/
def atV (l : List Ev) (rev : Int) : Option Ev := l.reverse.find? (fun e => decide (e.rev ≤ rev))
def Ev.zero : Ev := ⟨0, ⟨#[]⟩, ⟨#[]⟩, false, by decide, by decide⟩
/-- the versions that are told from a revision on, the last one first -/
def verR (rev : Int) : List Ev → List Ev
  | [] => []
  | e :: r => if rev < e.rev then e :: verR rev r else if e.del then [] else [e]
theorem verR_pre (rev : Int) : ∀ l : List Ev, verR rev l <+: l
  | [] => List.prefix_refl _
  | e :: r => by
    unfold verR
    split
    · exact List.prefix_cons_iff.2 (Or.inr ⟨_, rfl, verR_pre rev r⟩)
    · split
      · exact List.nil_prefix
      · exact List.prefix_cons_iff.2 (Or.inr ⟨_, rfl, List.nil_prefix⟩)
theorem verR_at {rev : Int} : ∀ {l : List Ev} {j : Nat} {x : Ev}, l[j]? = some x → x.rev ≤ rev → (∀ i, i < j → ∀ y, l[i]? = some y → rev < y.rev) → (verR rev l).length = j + (if x.del then 0 else 1)
  | [], j, x, h, _, _ => by simp at h
  | a :: r, 0, x, h, hp, _ => by
    simp at h; subst h
    unfold verR
    rw [if_neg (by omega)]
    split <;> rfl
  | a :: r, j + 1, x, h, hp, hn => by
    have h0 := hn 0 (by omega) a (by simp)
    have h1 := verR_at (l := r) (by simpa using h) hp (fun i hi y hy => hn (i + 1) (by omega) y (by simpa using hy))
    unfold verR
    rw [if_pos h0, List.length_cons, h1]; omega
theorem verR_all {rev : Int} : ∀ {l : List Ev}, (∀ y ∈ l, rev < y.rev) → verR rev l = l
  | [], _ => rfl
  | a :: r, h => by
    unfold verR
    rw [if_pos (h a (by simp)), verR_all (fun y hy => h y (List.mem_cons_of_mem _ hy))]
def kept (e : Ev) : Int := if e.del then 0 else 1
def fromV (l : List Ev) (rev : Int) : List Ev := (verR rev l.reverse).reverse
theorem fromV_drop {l : List Ev} {rev : Int} {k : Nat} (h : l.length = (verR rev l.reverse).length + k) : fromV l rev = l.drop k := by
  unfold fromV
  obtain ⟨t, ht⟩ := verR_pre rev l.reverse
  have h1 : l = t.reverse ++ (verR rev l.reverse).reverse := by rw [← List.reverse_append, ht, List.reverse_reverse]
  have h2 : t.reverse.length = k := by
    have := congrArg List.length h1
    rw [List.length_append, List.length_reverse, List.length_reverse] at this
    rw [List.length_reverse]; omega
  conv => rhs; rw [h1]
  rw [← h2, List.drop_left]
theorem gets_mem {α : Type} {p : α → Prop} {l : List α} (h : ∀ i, i < l.length → ∀ y, l[i]? = some y → p y) : ∀ y ∈ l, p y := by
  intro y hy
  obtain ⟨i, hi⟩ := List.mem_iff_getElem?.1 hy
  exact h i (List.getElem?_eq_some_iff.1 hi).1 y hi

theorem lies_not {w : World} {e : TypeId} {size n : Nat} {v : Value} {xs : List Value} (h : Lies w e size v n xs) {D : Nat} {o : Obj} (hD : w.heap[D]? = some o) (ho : o.isCells = false) : ∀ k, v.ownBlock = some k → k ∉ [D] := by
  intro k hk hm
  obtain rfl : k = D := by simpa using hm
  rcases h.2 with ⟨rfl, _⟩ | ⟨g, off, cap, cur, rfl, hg, _⟩
  · cases hk
  · cases hk; rw [hg] at hD; cases hD; cases ho
end Go.Proofs.Ytmipllkgioakoaa
