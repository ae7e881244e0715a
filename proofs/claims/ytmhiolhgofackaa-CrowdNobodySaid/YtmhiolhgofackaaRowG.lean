/- ROWS, GENERIC: elements' cells told by a function (cut from XEvAt, XIn, XEvSel) -/
import Derived.Test.YtmhiolhgofackaaBytes
import Derived.Test.YtmhiolhgofackaaAfter
namespace Go.Proofs.Ytmhiolhgofackaa
open Go.RowKit
set_option linter.unusedVariables false
set_option linter.unusedSimpArgs false

section
variable {α : Type} {cs : α → List Value} {sz : Nat} {e : TypeId} {w w' : World} {v : Value} {l r : List α}
def allC (cs : α → List Value) (l : List α) : List Value := (l.map cs).flatten
theorem allC_len (hc : ∀ x, (cs x).length = sz) : ∀ l : List α, (allC cs l).length = l.length * sz
  | [] => by simp [allC]
  | x :: r => by
    have ih := allC_len hc r
    unfold allC at ih ⊢
    simp only [List.map_cons, List.flatten_cons, List.length_append, List.length_cons, ih, hc, Nat.add_mul, Nat.one_mul]
    omega
theorem allC_app (l r : List α) : allC cs (l ++ r) = allC cs l ++ allC cs r := by simp [allC]
theorem allC_cons (x : α) (r : List α) : allC cs (x :: r) = cs x ++ allC cs r := by simp [allC]
theorem allC_one (x : α) : allC cs [x] = cs x := by simp [allC]
theorem allC_at (hc : ∀ x, (cs x).length = sz) : ∀ (l : List α) (i : Nat) (x : α), l[i]? = some x → ∀ j, j < sz → (allC cs l)[i * sz + j]? = (cs x)[j]?
  | [], i, x, h, _, _ => by simp at h
  | y :: r, 0, x, h, j, hj => by
    simp at h; subst h
    rw [allC_cons, Nat.zero_mul, Nat.zero_add, List.getElem?_append_left (by rw [hc]; exact hj)]
  | y :: r, i + 1, x, h, j, hj => by
    have ih := allC_at hc r i x (by simpa using h) j hj
    rw [allC_cons, List.getElem?_append_right (by rw [hc, Nat.add_mul]; omega), hc, ← ih]
    congr 1
    rw [Nat.add_mul]; omega
theorem allC_ones (h1 : ∀ x, ∀ y ∈ cs x, y.oneCell' = true) (l : List α) : ∀ y ∈ allC cs l, y.oneCell' = true := by
  intro y hy
  unfold allC at hy
  obtain ⟨m, hm, hy⟩ := List.mem_flatten.1 hy
  obtain ⟨x, _, rfl⟩ := List.mem_map.1 hm
  exact h1 x y hy
theorem allC_take (hc : ∀ x, (cs x).length = sz) (l : List α) (k : Nat) (hk : k ≤ l.length) : (allC cs l).take (k * sz) = allC cs (l.take k) := by
  conv => lhs; rw [← List.take_append_drop k l]
  have h1 := allC_len hc (l.take k)
  rw [List.length_take, Nat.min_eq_left hk] at h1
  rw [allC_app, List.take_append_of_le_length (by omega), List.take_of_length_le (by omega)]
theorem allC_drop (hc : ∀ x, (cs x).length = sz) (l : List α) (k : Nat) (hk : k ≤ l.length) : (allC cs l).drop (k * sz) = allC cs (l.drop k) := by
  conv => lhs; rw [← List.take_append_drop k l]
  have h1 := allC_len hc (l.take k)
  rw [List.length_take, Nat.min_eq_left hk] at h1
  rw [allC_app, List.drop_append_of_le_length (by omega), List.drop_of_length_le (by omega), List.nil_append]

def LAt (cs : α → List Value) (e : TypeId) (sz : Nat) (w : World) (v : Value) (l : List α) : Prop := Lies w e sz v l.length (allC cs l)
theorem LAt.keep {S : List Nat} (h : LAt cs e sz w v l) (hf : Fr S w w') (hv : ∀ k, v.ownBlock = some k → k ∉ S) : LAt cs e sz w' v l := Lies.keep h hf hv
theorem LAt.keep0 (h : LAt cs e sz w v l) (hf : Fr [] w w') : LAt cs e sz w' v l := Lies.keep h hf (by simp)
theorem LAt.nil (w : World) : LAt cs e sz w (.slice none 0 0) [] := Lies.nil w e sz
theorem LAt.lt (h : LAt cs e sz w v l) : ∀ k, v.ownBlock = some k → k < w.heap.size := Lies.lt h
theorem LAt.form (h : LAt cs e sz w v l) : ∃ s c, v = .slice s l.length c ∧ l.length ≤ c ∧ c ≤ maxLen := Lies.form h
/-- one with an element: where it lies -/
theorem LAt.here (h : LAt cs e sz w v l) (hc : ∀ x, (cs x).length = sz) (hn : 0 < l.length) : ∃ g off c, v = .slice (some ⟨g, off, none⟩) l.length c ∧ g < w.heap.size ∧ l.length ≤ c ∧
    ∀ i x, l[i]? = some x → ∀ j, j < sz → w.cell? ⟨g, off + (i * sz + j), none⟩ = (cs x)[j]? ∧ w.frozen? ⟨g, off + (i * sz + j), none⟩ = false := by
  obtain ⟨g, off, c, rfl, h1, h2, h3⟩ := Lies.here h hn
  refine ⟨g, off, c, rfl, h1, h2, fun i x hx j hj => ?_⟩
  have hi : i < l.length := (List.getElem?_eq_some_iff.1 hx).1
  have hm : i * sz + j < l.length * sz := by
    have : (i + 1) * sz ≤ l.length * sz := Nat.mul_le_mul_right _ hi
    rw [Nat.add_mul] at this; omega
  obtain ⟨h4, h5⟩ := h3 (i * sz + j) hm
  exact ⟨h4.trans (allC_at hc l i x hx j hj), h5⟩
/-- a row of one element that was just laid -/
theorem lies_row (w : World) (e : TypeId) (c : List Value) (hs : c.length = sz) (B : Nat) (hB : w.heap.size = B) : Lies (w.alloc (.cells c.toArray e)) e sz (.slice (some ⟨B, 0, none⟩) 1 1) 1 c := by
  subst hB
  refine ⟨by omega, Or.inr ⟨_, 0, 1, c.toArray, rfl, new_block _ _, Nat.le_refl _, by unfold maxLen; omega, by simp; omega, fun j hj => by simp⟩⟩
/-- s[:k] -/
theorem Lies.take {n : Nat} {p : Option Addr} {c k : Nat} {xs : List Value} (h : Lies w e sz (.slice p n c) n xs) (hk : k ≤ n) : Lies w e sz (.slice p k c) k (xs.take (k * sz)) := by
  obtain ⟨h1, h2⟩ := h
  have hkm : k * sz ≤ n * sz := Nat.mul_le_mul_right _ hk
  refine ⟨by rw [List.length_take, h1]; omega, ?_⟩
  rcases h2 with ⟨hv, hn⟩ | ⟨g, off, cap, cur, hv, hg, h5, h6, h7, h8⟩
  · left
    simp only [Value.slice.injEq] at hv
    obtain ⟨rfl, _, rfl⟩ := hv
    have : k = 0 := by omega
    subst this; exact ⟨rfl, rfl⟩
  · right
    simp only [Value.slice.injEq] at hv
    obtain ⟨rfl, _, rfl⟩ := hv
    refine ⟨g, off, c, cur, rfl, hg, by omega, h6, h7, fun j hj => ?_⟩
    rw [List.getElem?_take, if_pos hj]
    exact h8 j (by omega)
/-- s[k:] -/
theorem Lies.drop {n : Nat} {g off c k m off' : Nat} {xs : List Value} (h : Lies w e sz (.slice (some ⟨g, off, none⟩) n c) n xs) (hm : n = m + k) (ho : CutAt off k sz c off') : Lies w e sz (.slice (some ⟨g, off', none⟩) m (c - k)) m (xs.drop (k * sz)) := by
  obtain ⟨h1, h2⟩ := h
  subst hm
  refine ⟨by rw [List.length_drop, h1, Nat.add_mul]; omega, ?_⟩
  rcases h2 with ⟨hv, hn⟩ | ⟨g', offx, cap, cur, hv, hg, h5, h6, h7, h8⟩
  · cases hv
  · right
    simp only [Value.slice.injEq, Option.some.injEq, Addr.mk.injEq, and_true, true_and] at hv
    obtain ⟨⟨rfl, rfl⟩, rfl⟩ := hv
    have hcm : (c - k) * sz + k * sz = c * sz := by rw [← Nat.add_mul]; congr 1; omega
    have hoff : off' + (c - k) * sz ≤ cur.size ∧ (0 < m * sz → off' = off + k * sz) := by
      rcases ho with rfl | ⟨rfl, rfl⟩
      · exact ⟨by omega, fun _ => rfl⟩
      · have : m = 0 := by omega
        subst this
        refine ⟨by simp; omega, fun h => by simp at h⟩
    refine ⟨g, off', c - k, cur, rfl, hg, by omega, by omega, hoff.1, fun j hj => ?_⟩
    rw [List.getElem?_drop, hoff.2 (by omega)]
    have := h8 (k * sz + j) (by rw [Nat.add_mul]; omega)
    rw [← this]
    congr 1
    omega
end
section
variable {α : Type} {cs : α → List Value} {sz : Nat} {e : TypeId} {w w' : World} {v : Value} {l : List α}
/-- a slice whose elements can be read -/
def LIn (cs : α → List Value) (sz : Nat) (w : World) (v : Value) (l : List α) : Prop :=
  ∃ a c, v = .slice a l.length c ∧ l.length ≤ c ∧ c ≤ maxLen ∧ (0 < l.length → ∃ g off, a = some ⟨g, off, none⟩ ∧ g < w.heap.size ∧ ∀ i x, l[i]? = some x → ∀ j, j < sz → w.cell? ⟨g, off + (i * sz + j), none⟩ = (cs x)[j]?)
theorem LIn.keep0 (h : LIn cs sz w v l) (hf : Fr [] w w') : LIn cs sz w' v l := by
  obtain ⟨a, c, h1, h2, h3, h4⟩ := h
  refine ⟨a, c, h1, h2, h3, fun hl => ?_⟩
  obtain ⟨g, off, h5, h6, h7⟩ := h4 hl
  refine ⟨g, off, h5, Nat.lt_of_lt_of_le h6 hf.size, fun i x hx j hj => ?_⟩
  have h8 := h7 i x hx j hj
  cases hc : (cs x)[j]? with
  | some y => rw [hc] at h8; exact hf.cell h8 (by simp)
  | none =>
    rw [hc] at h8
    rw [← h8]
    unfold World.cell?
    rw [hf.block g h6 (by simp)]
theorem LIn.form (h : LIn cs sz w v l) : ∃ s c, v = .slice s l.length c ∧ l.length ≤ c ∧ c ≤ maxLen := by
  obtain ⟨a, c, h1, h2, h3, _⟩ := h
  exact ⟨a, c, h1, h2, h3⟩
theorem LIn.here (h : LIn cs sz w v l) (hn : 0 < l.length) : ∃ g off c, v = .slice (some ⟨g, off, none⟩) l.length c ∧ g < w.heap.size ∧ l.length ≤ c ∧ ∀ i x, l[i]? = some x → ∀ j, j < sz → w.cell? ⟨g, off + (i * sz + j), none⟩ = (cs x)[j]? := by
  obtain ⟨a, c, h1, h2, h3, h4⟩ := h
  obtain ⟨g, off, rfl, h6, h7⟩ := h4 hn
  exact ⟨g, off, c, h1, h6, h2, h7⟩
theorem LIn.lt {g off c : Nat} (h : LIn cs sz w (.slice (some ⟨g, off, none⟩) l.length c) l) (hn : 0 < l.length) : g < w.heap.size := by
  obtain ⟨g', off', c', hv, h1, _⟩ := h.here hn
  cases hv; exact h1
theorem LAt.read (h : LAt cs e sz w v l) (hc : ∀ x, (cs x).length = sz) : LIn cs sz w v l := by
  obtain ⟨s, c, h1, h2, h3⟩ := h.form
  refine ⟨s, c, h1, h2, h3, fun hl => ?_⟩
  obtain ⟨g, off, c', hv, h4, h5, h6⟩ := h.here hc hl
  rw [hv] at h1
  cases h1
  exact ⟨g, off, rfl, h4, fun i x hx j hj => (h6 i x hx j hj).1⟩
theorem LIn.nil (w : World) : LIn cs sz w (.slice none 0 0) [] := ⟨none, 0, rfl, Nat.le_refl _, Nat.zero_le _, fun h => by simp at h⟩

/-- what is appended: cells that can be read -/
def Src (w : World) (size : Nat) (u : Value) (m : Nat) (ys : List Value) : Prop :=
  ys.length = m * size ∧ ∃ ua uc, u = .slice ua m uc ∧ (0 < m → ∃ g off, ua = some ⟨g, off, none⟩ ∧ ∀ j y, ys[j]? = some y → w.cell? ⟨g, off + j, none⟩ = some y)
theorem LIn.src (h : LIn cs sz w v l) (hc : ∀ x, (cs x).length = sz) (hs : 0 < sz) : Src w sz v l.length (allC cs l) := by
  refine ⟨allC_len hc l, ?_⟩
  obtain ⟨a, c, h1, h2, h3, h4⟩ := h
  refine ⟨a, c, h1, fun hl => ?_⟩
  obtain ⟨g, off, h5, h6, h7⟩ := h4 hl
  refine ⟨g, off, h5, fun j y hy => ?_⟩
  have hj : j < l.length * sz := by rw [← allC_len hc l]; exact (List.getElem?_eq_some_iff.1 hy).1
  have hi : j / sz < l.length := Nat.div_lt_of_lt_mul (by rw [Nat.mul_comm]; exact hj)
  have hx : l[j / sz]? = some (l[j / sz]) := List.getElem?_eq_getElem hi
  have hr : j % sz < sz := Nat.mod_lt _ hs
  have h8 := h7 _ _ hx (j % sz) hr
  have h9 := allC_at hc l _ _ hx (j % sz) hr
  have hd : j / sz * sz + j % sz = j := by rw [Nat.mul_comm]; exact Nat.div_add_mod j sz
  rw [hd] at h8 h9
  rw [h8, ← h9, hy]
theorem Src.keep {size m : Nat} {u : Value} {ys : List Value} (h : Src w size u m ys) (hf : Fr [] w w') : Src w' size u m ys := by
  obtain ⟨h1, ua, uc, h2, h3⟩ := h
  refine ⟨h1, ua, uc, h2, fun hm => ?_⟩
  obtain ⟨g, off, h4, h5⟩ := h3 hm
  exact ⟨g, off, h4, fun j y hy => hf.cell (h5 j y hy) (by simp)⟩
end

/-- append FROM A ROW THAT IS READ, to one's own -/
theorem run_append_src {P : Program} (w : World) (t ty e : TypeId) (z : Value) (size bytes : Nat)
    (ht : P.underlying t = some (.slice e)) (hi : (P.info? e).map (fun i => (i.zero, i.size, i.bytes)) = some (some z, size, bytes)) (hzs : z.cells.size = size) (hsz : 0 < size)
    (v : Value) (n : Nat) (xs : List Value) (hown : Lies w e size v n xs)
    (u : Value) (m : Nat) (ys : List Value) (hsrc : Src w size u m ys) (h1 : ∀ y ∈ ys, y.oneCell' = true)
    (h63 : n + m ≤ maxLen) (hbytes : (n + m) * bytes ≤ 140737488355328) :
    ∃ v' w', (Builtin.append_ #[t, t] ty #[v, u]).run P w = .ok v' w' ∧ Lies w' e size v' (n + m) (xs ++ ys) ∧ Fr v.ownBlock.toList w w' ∧ (∀ k, v'.ownBlock = some k → v.ownBlock = some k ∨ k = w.heap.size) := by
  obtain ⟨i, hi', hz0, hz1, hz2⟩ := info_parts hi
  clear hi
  have hi := hi'
  clear hi'
  obtain ⟨hl, ua, uc, rfl, hu⟩ := hsrc
  rcases Nat.eq_zero_or_pos m with rfl | hm
  · obtain rfl : ys = [] := List.eq_nil_of_length_eq_zero (by simpa using hl)
    refine ⟨v, w, ?_, by simpa using hown, Fr.refl _ _, fun k hk => Or.inl hk⟩
    rcases hown.2 with ⟨rfl, rfl⟩ | ⟨g, off, cap, cur, rfl, hg, h5, _⟩
    · cases ua <;> simp [Builtin.append_, run_underlying ht, sizeOf, typeInfo, hi, Builtin.lenOf, Builtin.firstCells, loadCellsFrom, loadCells]
    · cases ua <;> simp [Builtin.append_, run_underlying ht, sizeOf, typeInfo, hi, Builtin.lenOf, Builtin.firstCells, h5, storeCells, loadCellsFrom, loadCells]
  · obtain ⟨ug, uo, rfl, hu2⟩ := hu hm
    have hnews : ∀ j y, ys[j]? = some y → w.cell? ((⟨ug, uo, none⟩ : Addr).add j) = some y := by
      intro j y hj
      rw [Addr.add_lit]; exact hu2 j y hj
    rcases hown.2 with ⟨rfl, rfl⟩ | ⟨g, off, cap, cur, rfl, hg, h5, h6, h7, h8⟩
    · obtain rfl : xs = [] := List.eq_nil_of_length_eq_zero (by simpa using hown.1)
      obtain ⟨v', w', hrun, r1, r2, _⟩ := run_append_own (P := P) w w.heap.size t ty e i z size bytes ht hi hz0 hz1 hz2 hzs hsz (.slice none 0 0) 0 [] (World.ownsRow_nil w _ e size) ⟨ug, uo, none⟩ m uc ys hl hnews h1 h63 hbytes (Nat.le_refl _)
      obtain ⟨v'', w'', hrun', _, _, _, hat⟩ := run_append_own_at (P := P) w w.heap.size t ty e i z size bytes ht hi hz0 hz1 hz2 hzs hsz (.slice none 0 0) 0 [] (World.ownsRow_nil w _ e size) ⟨ug, uo, none⟩ m uc ys hl hnews h1 h63 hbytes (Nat.le_refl _)
      have heq : v'' = v' := by rw [hrun] at hrun'; cases hrun'; rfl
      subst heq
      refine ⟨v'', w', hrun, Lies.of_own (r1.mono (Nat.zero_le _)), Fr.of_grown r2, fun k hk => ?_⟩
      rcases hat with hat | hat
      · rw [hat] at hk; exact Or.inl hk
      · rw [hat] at hk; exact Or.inr (by simpa using hk.symm)
    · by_cases hroom : n + m ≤ cap
      · subst hz1
        have hcap : (n + m) * i.size ≤ cap * i.size := Nat.mul_le_mul_right _ hroom
        have hmul : (n + m) * i.size = n * i.size + m * i.size := Nat.add_mul _ _ _
        have hin : ∀ j, j < ys.length → off + n * i.size + j < cur.size := fun j hj => by omega
        have hrun := run_append_room_cells (P := P) w t ty e i ht hi g off n cap ⟨ug, uo, none⟩ m uc ys hl hnews h1 hroom
          (fun j hj => by rw [cell_block hg, Array.getElem?_eq_getElem (hin j hj)]; rfl) (fun j hj => free_block hg _)
        obtain ⟨cur', q1, q2, q3⟩ := setCells_block ys (off + n * i.size) w cur hg (by omega)
        refine ⟨_, _, hrun, ⟨by rw [List.length_append, hown.1, hl, hmul], Or.inr ⟨g, off, cap, cur', rfl, q1, hroom, h6, by rw [q2]; exact h7, fun j hj => ?_⟩⟩, Fr.setCells g (Or.inl (by simp [Value.ownBlock])) _ _ (Fr.refl _ _), fun k hk => Or.inl hk⟩
        rw [q3]
        have hx := hown.1
        by_cases hjn : j < n * i.size
        · rw [if_neg (by omega), List.getElem?_append_left (by omega)]
          exact h8 j hjn
        · rw [if_pos (by omega), List.getElem?_append_right (by omega)]
          congr 1
          omega
      · obtain ⟨v', w', hrun, r1, r2⟩ := run_append_arg_grows (P := P) w t ty e i z size bytes ht hi hz0 hz1 hz2 hzs hsz ⟨g, off, none⟩ n cap xs hown.1
          (fun j x hj => by
            have hjl : j < n * size := by rw [← hown.1]; exact (List.getElem?_eq_some_iff.1 hj).1
            rw [Addr.add_lit, cell_block hg, h8 j hjl, hj]) ⟨ug, uo, none⟩ m uc ys hl hnews (by omega) h63 hbytes
        have hr := run_append_grow (P := P) w t ty e i z ht hi hz0 ⟨g, off, none⟩ n cap xs (by rw [hz1]; exact hown.1) (fun j x hj => by
            have hjl : j < n * size := by rw [← hown.1]; exact (List.getElem?_eq_some_iff.1 hj).1
            rw [Addr.add_lit, cell_block hg, h8 j hjl, hj]) ⟨ug, uo, none⟩ m uc ys (by rw [hz1]; exact hl) hnews (by omega) (by unfold maxLen at h63; omega) (growslice_fits (by omega) (by rw [hz2]; exact hbytes))
        have hv : ∀ k, v'.ownBlock = some k → k = w.heap.size := by
          rw [hrun] at hr
          intro k hk
          cases hr
          simpa [Value.ownBlock] using hk.symm
        exact ⟨v', w', hrun, Lies.of_own (r1.mono (Nat.zero_le _)), (Fr.of_grown r2).mono (by simp), fun k hk => Or.inr (hv k hk)⟩
theorem wpList_append_src {P : Program} {w : World} {ops : Array Oper} {rest : List Oper} {o : Oper} {a : Act} {Q : Exit → Act → World → Prop} (hgd : o.guard = none) (s x : Operand) (t e : TypeId) (z : Value) (size bytes : Nat)
    (ho : o.op = .call { callee := .builtin .append, args := #[s, x], argTypes := #[t, t] })
    (ht : P.underlying t = some (.slice e)) (hi : (P.info? e).map (fun i => (i.zero, i.size, i.bytes)) = some (some z, size, bytes)) (hzs : z.cells.size = size) (hsz : 0 < size)
    (v : Value) (n : Nat) (xs : List Value) (hs : a.eval s = v) (hown : Lies w e size v n xs)
    (u : Value) (m : Nat) (ys : List Value) (hx : a.eval x = u) (hsrc : Src w size u m ys) (h1 : ∀ y ∈ ys, y.oneCell' = true)
    (h63 : n + m ≤ maxLen) (hbytes : (n + m) * bytes ≤ 140737488355328)
    (h : ∀ v' w', Lies w' e size v' (n + m) (xs ++ ys) → Fr v.ownBlock.toList w w' → (∀ k, v'.ownBlock = some k → v.ownBlock = some k ∨ k = w.heap.size) → wpList P ops Q rest (a.put o.dst v') w') :
    wpList P ops Q (o :: rest) a w := by
  refine wpList_plain hgd fun K hK => ?_
  obtain ⟨v', w', hr, h2, h3, h4⟩ := run_append_src (P := P) w t o.type e z size bytes ht hi hzs hsz v n xs hown u m ys hsrc h1 h63 hbytes
  unfold Oper.wp execOp
  simp only [ho, resolve, invoke, builtin, Sem.run_bind, Sem.run_pure, Result.andThen_ok, List.map_toArray, List.map_cons, List.map_nil, hs, hx, hr]
  exact hK _ _ (h v' w' h2 h3 h4)

/-! events and maps that are read -/
theorem filt_step {α : Type} {p : α → Bool} {l : List α} {j : Nat} {x : α} (hx : l[j]? = some x) : (l.drop j).filter p = (if p x then [x] else []) ++ (l.drop (j + 1)).filter p := by
  obtain ⟨h1, rfl⟩ := List.getElem?_eq_some_iff.1 hx
  rw [List.drop_eq_getElem_cons h1, List.filter_cons]
  split <;> rfl
/-- a row of one's own: it lies there, in a block that was made later than wb -/
structure OutAt {α : Type} (cs : α → List Value) (e : TypeId) (sz : Nat) (wb wr : World) (v : Value) (o : List α) : Prop where
  lies : LAt cs e sz wr v o
  new : ∀ k, v.ownBlock = some k → wb.heap.size ≤ k
section
variable {α : Type} {cs : α → List Value} {sz : Nat} {e : TypeId} {wb wr w' : World} {v : Value} {o : List α}
theorem OutAt.nil (wb wr : World) : OutAt cs e sz wb wr (.slice none 0 0) [] := ⟨LAt.nil wr, by simp [Value.ownBlock]⟩
theorem OutAt.keep (h : OutAt cs e sz wb wr v o) (hf : Fr [] wr w') : OutAt cs e sz wb w' v o := ⟨h.lies.keep0 hf, h.new⟩
/-- behind an append to it -/
theorem OutAt.app {W : World} {v' : Value} {n B : Nat} {xs : List α} (h : OutAt cs e sz wb W v o) (hb : wb.heap.size ≤ B) (h1 : Lies w' e sz v' (o.length + n) (allC cs o ++ allC cs xs)) (hn : xs.length = n)
    (h3 : ∀ k, v'.ownBlock = some k → v.ownBlock = some k ∨ k = B) : OutAt cs e sz wb w' v' (o ++ xs) := by
  refine ⟨?_, fun k hk => ?_⟩
  · unfold LAt; rw [allC_app, List.length_append, hn]; exact h1
  · rcases h3 k hk with h4 | rfl
    · exact h.new k h4
    · exact hb
theorem OutAt.fr {W : World} (h : OutAt cs e sz wb W v o) (hW : Fr [] wb W) (hf : Fr v.ownBlock.toList W w') : Fr [] wb w' :=
  hW.trans hf (fun k hk => Or.inr (h.new k (by simpa using hk)))
end
end Go.Proofs.Ytmhiolhgofackaa
