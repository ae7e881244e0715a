/- LISTS OF STRUCTS IN MEMORY: a slice whose elements' cells are told by a function; events and keys with values -/
import Derived.Test.YtbbhekmhffhpfaaEv
import Derived.Test.YtbbhekmhffhpfaaAfter
namespace Go.Proofs.Ytbbhekmhffhpfaa
open Go.RowKit
set_option linter.unusedVariables false
set_option linter.unusedSimpArgs false

section
variable {α : Type} {cs : α → List Value} {sz : Nat} {e : TypeId} {w w' : World} {v : Value} {l r : List α}
def allC (cs : α → List Value) (l : List α) : List Value := (l.map cs).flatten
theorem allC_len (hc : ∀ x, (cs x).length = sz) : ∀ l : List α, (allC cs l).length = l.length * sz
  | [] => by simp [allC]
  | x :: r => by
    have ih := allC_len hc r
    unfold allC at ih ⊢
    simp only [List.map_cons, List.flatten_cons, List.length_append, List.length_cons, ih, hc, Nat.add_mul, Nat.one_mul]
    omega
theorem allC_app (l r : List α) : allC cs (l ++ r) = allC cs l ++ allC cs r := by simp [allC]
theorem allC_cons (x : α) (r : List α) : allC cs (x :: r) = cs x ++ allC cs r := by simp [allC]
theorem allC_one (x : α) : allC cs [x] = cs x := by simp [allC]
theorem allC_at (hc : ∀ x, (cs x).length = sz) : ∀ (l : List α) (i : Nat) (x : α), l[i]? = some x → ∀ j, j < sz → (allC cs l)[i * sz + j]? = (cs x)[j]?
  | [], i, x, h, _, _ => by simp at h
  | y :: r, 0, x, h, j, hj => by
    simp at h; subst h
    rw [allC_cons, Nat.zero_mul, Nat.zero_add, List.getElem?_append_left (by rw [hc]; exact hj)]
  | y :: r, i + 1, x, h, j, hj => by
    have ih := allC_at hc r i x (by simpa using h) j hj
    rw [allC_cons, List.getElem?_append_right (by rw [hc, Nat.add_mul]; omega), hc, ← ih]
    congr 1
    rw [Nat.add_mul]; omega
theorem allC_ones (h1 : ∀ x, ∀ y ∈ cs x, y.oneCell' = true) (l : List α) : ∀ y ∈ allC cs l, y.oneCell' = true := by
  intro y hy
  unfold allC at hy
  obtain ⟨m, hm, hy⟩ := List.mem_flatten.1 hy
  obtain ⟨x, _, rfl⟩ := List.mem_map.1 hm
  exact h1 x y hy
theorem allC_take (hc : ∀ x, (cs x).length = sz) (l : List α) (k : Nat) (hk : k ≤ l.length) : (allC cs l).take (k * sz) = allC cs (l.take k) := by
  conv => lhs; rw [← List.take_append_drop k l]
  have h1 := allC_len hc (l.take k)
  rw [List.length_take, Nat.min_eq_left hk] at h1
  rw [allC_app, List.take_append_of_le_length (by omega), List.take_of_length_le (by omega)]
theorem allC_drop (hc : ∀ x, (cs x).length = sz) (l : List α) (k : Nat) (hk : k ≤ l.length) : (allC cs l).drop (k * sz) = allC cs (l.drop k) := by
  conv => lhs; rw [← List.take_append_drop k l]
  have h1 := allC_len hc (l.take k)
  rw [List.length_take, Nat.min_eq_left hk] at h1
  rw [allC_app, List.drop_append_of_le_length (by omega), List.drop_of_length_le (by omega), List.nil_append]

def LAt (cs : α → List Value) (e : TypeId) (sz : Nat) (w : World) (v : Value) (l : List α) : Prop := Lies w e sz v l.length (allC cs l)
theorem LAt.keep {S : List Nat} (h : LAt cs e sz w v l) (hf : Fr S w w') (hv : ∀ k, v.ownBlock = some k → k ∉ S) : LAt cs e sz w' v l := Lies.keep h hf hv
theorem LAt.keep0 (h : LAt cs e sz w v l) (hf : Fr [] w w') : LAt cs e sz w' v l := Lies.keep h hf (by simp)
theorem LAt.nil (w : World) : LAt cs e sz w (.slice none 0 0) [] := Lies.nil w e sz
theorem LAt.lt (h : LAt cs e sz w v l) : ∀ k, v.ownBlock = some k → k < w.heap.size := Lies.lt h
theorem LAt.form (h : LAt cs e sz w v l) : ∃ s c, v = .slice s l.length c ∧ l.length ≤ c ∧ c ≤ maxLen := Lies.form h
/-- one with an element: where it lies -/
theorem LAt.here (h : LAt cs e sz w v l) (hc : ∀ x, (cs x).length = sz) (hn : 0 < l.length) : ∃ g off c, v = .slice (some ⟨g, off, none⟩) l.length c ∧ g < w.heap.size ∧ l.length ≤ c ∧
    ∀ i x, l[i]? = some x → ∀ j, j < sz → w.cell? ⟨g, off + (i * sz + j), none⟩ = (cs x)[j]? ∧ w.frozen? ⟨g, off + (i * sz + j), none⟩ = false := by
  obtain ⟨g, off, c, rfl, h1, h2, h3⟩ := Lies.here h hn
  refine ⟨g, off, c, rfl, h1, h2, fun i x hx j hj => ?_⟩
  have hi : i < l.length := (List.getElem?_eq_some_iff.1 hx).1
  have hm : i * sz + j < l.length * sz := by
    have : (i + 1) * sz ≤ l.length * sz := Nat.mul_le_mul_right _ hi
    rw [Nat.add_mul] at this; omega
  obtain ⟨h4, h5⟩ := h3 (i * sz + j) hm
  exact ⟨h4.trans (allC_at hc l i x hx j hj), h5⟩
/-- a row of one element that was just laid -/
theorem lies_row (w : World) (e : TypeId) (c : List Value) (hs : c.length = sz) (B : Nat) (hB : w.heap.size = B) : Lies (w.alloc (.cells c.toArray e)) e sz (.slice (some ⟨B, 0, none⟩) 1 1) 1 c := by
  subst hB
  refine ⟨by omega, Or.inr ⟨_, 0, 1, c.toArray, rfl, new_block _ _, Nat.le_refl _, by unfold maxLen; omega, by simp; omega, fun j hj => by simp⟩⟩
/-- s[:k] -/
theorem Lies.take {n : Nat} {p : Option Addr} {c k : Nat} {xs : List Value} (h : Lies w e sz (.slice p n c) n xs) (hk : k ≤ n) : Lies w e sz (.slice p k c) k (xs.take (k * sz)) := by
  obtain ⟨h1, h2⟩ := h
  have hkm : k * sz ≤ n * sz := Nat.mul_le_mul_right _ hk
  refine ⟨by rw [List.length_take, h1]; omega, ?_⟩
  rcases h2 with ⟨hv, hn⟩ | ⟨g, off, cap, cur, hv, hg, h5, h6, h7, h8⟩
  · left
    simp only [Value.slice.injEq] at hv
    obtain ⟨rfl, _, rfl⟩ := hv
    have : k = 0 := by omega
    subst this; exact ⟨rfl, rfl⟩
  · right
    simp only [Value.slice.injEq] at hv
    obtain ⟨rfl, _, rfl⟩ := hv
    refine ⟨g, off, c, cur, rfl, hg, by omega, h6, h7, fun j hj => ?_⟩
    rw [List.getElem?_take, if_pos hj]
    exact h8 j (by omega)
/-- s[k:] -/
theorem Lies.drop {n : Nat} {g off c k m off' : Nat} {xs : List Value} (h : Lies w e sz (.slice (some ⟨g, off, none⟩) n c) n xs) (hm : n = m + k) (ho : CutAt off k sz c off') : Lies w e sz (.slice (some ⟨g, off', none⟩) m (c - k)) m (xs.drop (k * sz)) := by
  obtain ⟨h1, h2⟩ := h
  subst hm
  refine ⟨by rw [List.length_drop, h1, Nat.add_mul]; omega, ?_⟩
  rcases h2 with ⟨hv, hn⟩ | ⟨g', offx, cap, cur, hv, hg, h5, h6, h7, h8⟩
  · cases hv
  · right
    simp only [Value.slice.injEq, Option.some.injEq, Addr.mk.injEq, and_true, true_and] at hv
    obtain ⟨⟨rfl, rfl⟩, rfl⟩ := hv
    have hcm : (c - k) * sz + k * sz = c * sz := by rw [← Nat.add_mul]; congr 1; omega
    have hoff : off' + (c - k) * sz ≤ cur.size ∧ (0 < m * sz → off' = off + k * sz) := by
      rcases ho with rfl | ⟨rfl, rfl⟩
      · exact ⟨by omega, fun _ => rfl⟩
      · have : m = 0 := by omega
        subst this
        refine ⟨by simp; omega, fun h => by simp at h⟩
    refine ⟨g, off', c - k, cur, rfl, hg, by omega, by omega, hoff.1, fun j hj => ?_⟩
    rw [List.getElem?_drop, hoff.2 (by omega)]
    have := h8 (k * sz + j) (by rw [Nat.add_mul]; omega)
    rw [← this]
    congr 1
    omega
end

/-! events -/
def Ev.cells (x : Ev) : List Value := [.int .i64 x.rev, .string x.key, .string x.val, .bool x.del]
def Ev.agg (x : Ev) : Value := .agg #[.int .i64 x.rev, .string x.key, .string x.val, .bool x.del]
theorem Ev.clen (x : Ev) : x.cells.length = 4 := rfl
theorem Ev.cone (x : Ev) : ∀ y ∈ x.cells, y.oneCell' = true := by
  intro y hy
  simp only [Ev.cells, List.mem_cons, List.not_mem_nil, or_false] at hy
  rcases hy with rfl | rfl | rfl | rfl <;> rfl
/-- an event's cells -/
structure EvC (w : World) (g off : Nat) (x : Ev) : Prop where
  c0 : w.cell? ⟨g, off, none⟩ = some (.int .i64 x.rev)
  c1 : w.cell? ⟨g, off + 1, none⟩ = some (.string x.key)
  c2 : w.cell? ⟨g, off + 2, none⟩ = some (.string x.val)
  c3 : w.cell? ⟨g, off + 3, none⟩ = some (.bool x.del)
theorem EvC.keep {w w' : World} {g off : Nat} {x : Ev} {S : List Nat} (h : EvC w g off x) (hf : Fr S w w') (hg : g ∉ S) : EvC w' g off x :=
  ⟨hf.cell h.c0 hg, hf.cell h.c1 hg, hf.cell h.c2 hg, hf.cell h.c3 hg⟩
/-! keys with values -/
def Kv.cells (x : Kv) : List Value := [.string x.key, .string x.val, .int .i64 x.rev]
def Kv.agg (x : Kv) : Value := .agg #[.string x.key, .string x.val, .int .i64 x.rev]
theorem Kv.clen (x : Kv) : x.cells.length = 3 := rfl
theorem Kv.cone (x : Kv) : ∀ y ∈ x.cells, y.oneCell' = true := by
  intro y hy
  simp only [Kv.cells, List.mem_cons, List.not_mem_nil, or_false] at hy
  rcases hy with rfl | rfl | rfl <;> rfl
structure KvC (w : World) (g off : Nat) (x : Kv) : Prop where
  c0 : w.cell? ⟨g, off, none⟩ = some (.string x.key)
  c1 : w.cell? ⟨g, off + 1, none⟩ = some (.string x.val)
  c2 : w.cell? ⟨g, off + 2, none⟩ = some (.int .i64 x.rev)
theorem KvC.keep {w w' : World} {g off : Nat} {x : Kv} {S : List Nat} (h : KvC w g off x) (hf : Fr S w w') (hg : g ∉ S) : KvC w' g off x :=
  ⟨hf.cell h.c0 hg, hf.cell h.c1 hg, hf.cell h.c2 hg⟩
/-- how many there may be -/
def many : Nat := 1000000000
end Go.Proofs.Ytbbhekmhffhpfaa
