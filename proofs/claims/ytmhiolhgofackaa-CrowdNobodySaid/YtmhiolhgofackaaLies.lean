/- GENERIC: A SLICE AT ANY OFFSET OF A WHOLE BLOCK; append TO IT; its tail. -/
import Derived.Test.YtmhiolhgofackaaLib
import Derived.ArgAppend
import Derived.Deep.Upon
namespace Go.Proofs.Ytmhiolhgofackaa
open Go.RowKit
set_option linter.unusedVariables false
set_option linter.unusedSimpArgs false

/-- a slice of n elements of size cells each, at any offset of a block that is whole and may be written -/
def Lies (w : World) (e : TypeId) (size : Nat) (v : Value) (n : Nat) (xs : List Value) : Prop :=
  xs.length = n * size ∧ ((v = .slice none 0 0 ∧ n = 0) ∨
   ∃ g off cap cur, v = .slice (some ⟨g, off, none⟩) n cap ∧ w.heap[g]? = some (.cells cur e (0, 0)) ∧ n ≤ cap ∧ cap ≤ maxLen ∧ off + cap * size ≤ cur.size ∧ ∀ j, j < n * size → cur[off + j]? = xs[j]?)

section
variable {w w' : World} {e : TypeId} {size n : Nat} {v : Value} {xs : List Value}
theorem Lies.of_own (h : w.ownsRow 0 e size v n xs) : Lies w e size v n xs := by
  obtain ⟨h1, h2⟩ := h
  refine ⟨h1, ?_⟩
  rcases h2 with h2 | ⟨g, cap, cur, hv, _, hg, h5, h6, h7, h8⟩
  · exact Or.inl h2
  · refine Or.inr ⟨g, 0, cap, cur, hv, hg, h5, h6, by omega, fun j hj => ?_⟩
    rw [← h8, Nat.zero_add, List.getElem?_take, if_pos hj]
    simp
theorem Lies.nil (w : World) (e : TypeId) (size : Nat) : Lies w e size (.slice none 0 0) 0 [] := ⟨by simp, Or.inl ⟨rfl, rfl⟩⟩
theorem Lies.keep {S : List Nat} (h : Lies w e size v n xs) (hf : Fr S w w') (hv : ∀ k, v.ownBlock = some k → k ∉ S) : Lies w' e size v n xs := by
  obtain ⟨h1, h2⟩ := h
  refine ⟨h1, ?_⟩
  rcases h2 with h2 | ⟨g, off, cap, cur, rfl, hg, r⟩
  · exact Or.inl h2
  · exact Or.inr ⟨g, off, cap, cur, rfl, hf.keep hg (hv g rfl), r⟩
theorem Lies.lt (h : Lies w e size v n xs) : ∀ k, v.ownBlock = some k → k < w.heap.size := by
  intro k hk
  rcases h.2 with ⟨rfl, _⟩ | ⟨g, off, cap, cur, rfl, hg, _⟩
  · simp [Value.ownBlock] at hk
  · simp [Value.ownBlock] at hk; subst hk; exact lt_of_block hg
theorem Lies.form (h : Lies w e size v n xs) : ∃ s c, v = .slice s n c ∧ n ≤ c ∧ c ≤ maxLen := by
  rcases h.2 with ⟨rfl, rfl⟩ | ⟨g, off, cap, cur, rfl, _, h5, h6, _⟩
  · exact ⟨none, 0, rfl, Nat.le_refl _, Nat.zero_le _⟩
  · exact ⟨_, cap, rfl, h5, h6⟩
/-- one with an element: where it lies, and its cells -/
theorem Lies.here (h : Lies w e size v n xs) (hn : 0 < n) : ∃ g off c, v = .slice (some ⟨g, off, none⟩) n c ∧ g < w.heap.size ∧ n ≤ c ∧ ∀ j, j < n * size → w.cell? ⟨g, off + j, none⟩ = xs[j]? ∧ w.frozen? ⟨g, off + j, none⟩ = false := by
  rcases h.2 with ⟨rfl, rfl⟩ | ⟨g, off, cap, cur, rfl, hg, h5, h6, h7, h8⟩
  · omega
  · exact ⟨g, off, cap, rfl, lt_of_block hg, h5, fun j hj => ⟨(cell_block hg _).trans (h8 j hj), free_block hg _⟩⟩
theorem Lies.set {g off c : Nat} (h : Lies w e size (.slice (some ⟨g, off, none⟩) n c) n xs) (j : Nat) (u : Value) :
    Lies (w.setCell ⟨g, off + j, none⟩ u) e size (.slice (some ⟨g, off, none⟩) n c) n (xs.set j u) := by
  obtain ⟨h1, h2⟩ := h
  refine ⟨by simpa using h1, ?_⟩
  rcases h2 with ⟨h, _⟩ | ⟨g', off', cap, cur, hv, hg, h5, h6, h7, h8⟩
  · cases h
  · simp only [Value.slice.injEq, Option.some.injEq, Addr.mk.injEq, and_true, true_and] at hv
    obtain ⟨⟨rfl, rfl⟩, rfl⟩ := hv
    refine Or.inr ⟨g, off, c, _, rfl, set_block hg _ u, h5, h6, by simpa using h7, fun i hi => ?_⟩
    rw [Array.getElem?_setIfInBounds, List.getElem?_set]
    have hs : off + i < cur.size := by have : n * size ≤ c * size := Nat.mul_le_mul_right _ h5; omega
    by_cases hij : j = i
    · subst hij
      rw [if_pos rfl, if_pos hs, if_pos rfl, if_pos (by omega)]
    · rw [if_neg (by omega), if_neg hij]
      exact h8 i hi
theorem Lies.other (h : Lies w e size v n xs) (p : Addr) (hp : v.ownBlock ≠ some p.block) (u : Value) : Lies (w.setCell p u) e size v n xs :=
  h.keep ((Fr.refl [p.block] w).setCell (Or.inl (by simp)) u) (by intro k hk; simp; intro e; subst e; exact hp hk)
/-- s[1:], of one-cell elements -/
theorem Lies.tail {g off c : Nat} {x : Value} (h : Lies w e 1 (.slice (some ⟨g, off, none⟩) (n + 1) c) (n + 1) (x :: xs)) (off' : Nat) (ho : off' = off + 1 ∨ (c = 1 ∧ off' = off)) : Lies w e 1 (.slice (some ⟨g, off', none⟩) n (c - 1)) n xs := by
  obtain ⟨h1, h2⟩ := h
  refine ⟨by simp at h1 ⊢; omega, ?_⟩
  rcases h2 with ⟨h, _⟩ | ⟨g', offx, cap, cur, hv, hg, h5, h6, h7, h8⟩
  · cases h
  · simp only [Value.slice.injEq, Option.some.injEq, Addr.mk.injEq, and_true, true_and] at hv
    obtain ⟨⟨rfl, rfl⟩, rfl⟩ := hv
    refine Or.inr ⟨g, off', c - 1, cur, rfl, hg, by omega, by omega, by omega, fun j hj => ?_⟩
    have := h8 (j + 1) (by omega)
    simp at this
    rw [← this]
    congr 1
    omega
end

theorem setCells_block {g : Nat} {t : TypeId} {f : Nat × Nat} : ∀ (vs : List Value) (o : Nat) (w : World) (cur : Array Value), w.heap[g]? = some (.cells cur t f) → o + vs.length ≤ cur.size →
    ∃ cur', (w.setCells g o vs).heap[g]? = some (.cells cur' t f) ∧ cur'.size = cur.size ∧ ∀ j, cur'[j]? = if o ≤ j ∧ j < o + vs.length then vs[j - o]? else cur[j]?
  | [], o, w, cur, h, _ => ⟨cur, h, rfl, fun j => by rw [if_neg (by simp <;> omega)]⟩
  | v :: r, o, w, cur, h, hl => by
    obtain ⟨cur', h1, h2, h3⟩ := setCells_block r (o + 1) (w.setCell ⟨g, o, none⟩ v) _ (set_block h o v) (by simp at hl ⊢; omega)
    refine ⟨cur', h1, by simpa using h2, fun j => ?_⟩
    rw [h3 j, Array.getElem?_setIfInBounds]
    simp only [List.length_cons] at hl ⊢
    by_cases hj : o = j
    · subst hj
      rw [if_neg (by omega), if_pos rfl, if_pos (by omega), if_pos (by omega)]
      simp
    · rw [if_neg hj]
      by_cases hj2 : o + 1 ≤ j ∧ j < o + 1 + r.length
      · rw [if_pos hj2, if_pos (by omega)]
        rw [show j - o = (j - (o + 1)) + 1 by omega]
        simp
      · rw [if_neg hj2, if_neg (by omega)]
theorem Fr.setCells {S : List Nat} {a : World} (g : Nat) (hg : g ∈ S ∨ a.heap.size ≤ g) : ∀ (vs : List Value) (o : Nat) {w : World}, Fr S a w → Fr S a (w.setCells g o vs)
  | [], _, _, h => h
  | v :: r, o, _, h => Fr.setCells g hg r (o + 1) (h.setCell (p := ⟨g, o, none⟩) hg v)

/-- append OF ONE ROW TO ANOTHER ONE -/
theorem run_append_any {P : Program} (w : World) (t ty e : TypeId) (z : Value) (size bytes : Nat)
    (ht : P.underlying t = some (.slice e)) (hi : (P.info? e).map (fun i => (i.zero, i.size, i.bytes)) = some (some z, size, bytes)) (hzs : z.cells.size = size) (hsz : 0 < size)
    (v : Value) (n : Nat) (xs : List Value) (hown : Lies w e size v n xs)
    (u : Value) (m : Nat) (ys : List Value) (hsrc : Lies w e size u m ys) (h1 : ∀ y ∈ ys, y.oneCell' = true)
    (h63 : n + m ≤ maxLen) (hbytes : (n + m) * bytes ≤ 140737488355328) :
    ∃ v' w', (Builtin.append_ #[t, t] ty #[v, u]).run P w = .ok v' w' ∧ Lies w' e size v' (n + m) (xs ++ ys) ∧ Fr v.ownBlock.toList w w' ∧ (∀ k, v'.ownBlock = some k → v.ownBlock = some k ∨ k = w.heap.size) := by
  obtain ⟨i, hi', hz0, hz1, hz2⟩ := info_parts hi
  clear hi
  have hi := hi'
  clear hi'
  have hl := hsrc.1
  rcases hsrc.2 with ⟨rfl, rfl⟩ | ⟨ug, uo, uc, ucur, rfl, hug, hu5, hu6, hu7, hu8⟩
  · obtain rfl : ys = [] := List.eq_nil_of_length_eq_zero (by simpa using hl)
    refine ⟨v, w, ?_, by simpa using hown, Fr.refl _ _, fun k hk => Or.inl hk⟩
    rcases hown.2 with ⟨rfl, rfl⟩ | ⟨g, off, cap, cur, rfl, hg, h5, _⟩
    · simp [Builtin.append_, run_underlying ht, sizeOf, typeInfo, hi, Builtin.lenOf, Builtin.firstCells]
    · simp [Builtin.append_, run_underlying ht, sizeOf, typeInfo, hi, Builtin.lenOf, Builtin.firstCells, h5, storeCells]
  · have hnews : ∀ j y, ys[j]? = some y → w.cell? ((⟨ug, uo, none⟩ : Addr).add j) = some y := by
      intro j y hj
      have hjl : j < m * size := by rw [← hl]; exact (List.getElem?_eq_some_iff.1 hj).1
      rw [Addr.add_lit, cell_block hug, hu8 j hjl, hj]
    rcases hown.2 with ⟨rfl, rfl⟩ | ⟨g, off, cap, cur, rfl, hg, h5, h6, h7, h8⟩
    · obtain rfl : xs = [] := List.eq_nil_of_length_eq_zero (by simpa using hown.1)
      obtain ⟨v', w', hrun, r1, r2, _⟩ := run_append_own (P := P) w w.heap.size t ty e i z size bytes ht hi hz0 hz1 hz2 hzs hsz (.slice none 0 0) 0 [] (World.ownsRow_nil w _ e size) ⟨ug, uo, none⟩ m uc ys hl hnews h1 h63 hbytes (Nat.le_refl _)
      obtain ⟨v'', w'', hrun', _, _, _, hat⟩ := run_append_own_at (P := P) w w.heap.size t ty e i z size bytes ht hi hz0 hz1 hz2 hzs hsz (.slice none 0 0) 0 [] (World.ownsRow_nil w _ e size) ⟨ug, uo, none⟩ m uc ys hl hnews h1 h63 hbytes (Nat.le_refl _)
      have heq : v'' = v' := by rw [hrun] at hrun'; cases hrun'; rfl
      subst heq
      refine ⟨v'', w', hrun, Lies.of_own (r1.mono (Nat.zero_le _)), Fr.of_grown r2, fun k hk => ?_⟩
      rcases hat with hat | hat
      · rw [hat] at hk; exact Or.inl hk
      · rw [hat] at hk; exact Or.inr (by simpa using hk.symm)
    · by_cases hroom : n + m ≤ cap
      · subst hz1
        have hcap : (n + m) * i.size ≤ cap * i.size := Nat.mul_le_mul_right _ hroom
        have hmul : (n + m) * i.size = n * i.size + m * i.size := Nat.add_mul _ _ _
        have hin : ∀ j, j < ys.length → off + n * i.size + j < cur.size := fun j hj => by omega
        have hrun := run_append_room_cells (P := P) w t ty e i ht hi g off n cap ⟨ug, uo, none⟩ m uc ys hl hnews h1 hroom
          (fun j hj => by rw [cell_block hg, Array.getElem?_eq_getElem (hin j hj)]; rfl) (fun j hj => free_block hg _)
        obtain ⟨cur', q1, q2, q3⟩ := setCells_block ys (off + n * i.size) w cur hg (by omega)
        refine ⟨_, _, hrun, ⟨by rw [List.length_append, hown.1, hl, hmul], Or.inr ⟨g, off, cap, cur', rfl, q1, hroom, h6, by rw [q2]; exact h7, fun j hj => ?_⟩⟩, Fr.setCells g (Or.inl (by simp [Value.ownBlock])) _ _ (Fr.refl _ _), fun k hk => Or.inl hk⟩
        rw [q3]
        have hx := hown.1
        by_cases hjn : j < n * i.size
        · rw [if_neg (by omega), List.getElem?_append_left (by omega)]
          exact h8 j hjn
        · rw [if_pos (by omega), List.getElem?_append_right (by omega)]
          congr 1
          omega
      · obtain ⟨v', w', hrun, r1, r2⟩ := run_append_arg_grows (P := P) w t ty e i z size bytes ht hi hz0 hz1 hz2 hzs hsz ⟨g, off, none⟩ n cap xs hown.1
          (fun j x hj => by
            have hjl : j < n * size := by rw [← hown.1]; exact (List.getElem?_eq_some_iff.1 hj).1
            rw [Addr.add_lit, cell_block hg, h8 j hjl, hj]) ⟨ug, uo, none⟩ m uc ys hl hnews (by omega) h63 hbytes
        have hr := run_append_grow (P := P) w t ty e i z ht hi hz0 ⟨g, off, none⟩ n cap xs (by rw [hz1]; exact hown.1) (fun j x hj => by
            have hjl : j < n * size := by rw [← hown.1]; exact (List.getElem?_eq_some_iff.1 hj).1
            rw [Addr.add_lit, cell_block hg, h8 j hjl, hj]) ⟨ug, uo, none⟩ m uc ys (by rw [hz1]; exact hl) hnews (by omega) (by unfold maxLen at h63; omega) (growslice_fits (by omega) (by rw [hz2]; exact hbytes))
        have hv : ∀ k, v'.ownBlock = some k → k = w.heap.size := by
          rw [hrun] at hr
          intro k hk
          cases hr
          simpa [Value.ownBlock] using hk.symm
        exact ⟨v', w', hrun, Lies.of_own (r1.mono (Nat.zero_le _)), (Fr.of_grown r2).mono (by simp), fun k hk => Or.inr (hv k hk)⟩

theorem wpList_append_any {P : Program} {w : World} {ops : Array Oper} {rest : List Oper} {o : Oper} {a : Act} {Q : Exit → Act → World → Prop} (hgd : o.guard = none) (s x : Operand) (t e : TypeId) (z : Value) (size bytes : Nat)
    (ho : o.op = .call { callee := .builtin .append, args := #[s, x], argTypes := #[t, t] })
    (ht : P.underlying t = some (.slice e)) (hi : (P.info? e).map (fun i => (i.zero, i.size, i.bytes)) = some (some z, size, bytes)) (hzs : z.cells.size = size) (hsz : 0 < size)
    (v : Value) (n : Nat) (xs : List Value) (hs : a.eval s = v) (hown : Lies w e size v n xs)
    (u : Value) (m : Nat) (ys : List Value) (hx : a.eval x = u) (hsrc : Lies w e size u m ys) (h1 : ∀ y ∈ ys, y.oneCell' = true)
    (h63 : n + m ≤ maxLen) (hbytes : (n + m) * bytes ≤ 140737488355328)
    (h : ∀ v' w', Lies w' e size v' (n + m) (xs ++ ys) → Fr v.ownBlock.toList w w' → (∀ k, v'.ownBlock = some k → v.ownBlock = some k ∨ k = w.heap.size) → wpList P ops Q rest (a.put o.dst v') w') :
    wpList P ops Q (o :: rest) a w := by
  refine wpList_plain hgd fun K hK => ?_
  obtain ⟨v', w', hr, h2, h3, h4⟩ := run_append_any (P := P) w t o.type e z size bytes ht hi hzs hsz v n xs hown u m ys hsrc h1 h63 hbytes
  unfold Oper.wp execOp
  simp only [ho, resolve, invoke, builtin, Sem.run_bind, Sem.run_pure, Result.andThen_ok, List.map_toArray, List.map_cons, List.map_nil, hs, hx, hr]
  exact hK _ _ (h v' w' h2 h3 h4)

/-- the same at a step of a region that draws its order -/
theorem step_append_any {P : Program} {w : World} {ops : Array Oper} {o : Oper} {a : Act} {K : Act → World → Prop} {Q : Exit → Act → World → Prop} {E : Prop} (hgd : o.guard = none) (s x : Operand) (t e : TypeId) (z : Value) (size bytes : Nat)
    (ho : o.op = .call { callee := .builtin .append, args := #[s, x], argTypes := #[t, t] })
    (ht : P.underlying t = some (.slice e)) (hi : (P.info? e).map (fun i => (i.zero, i.size, i.bytes)) = some (some z, size, bytes)) (hzs : z.cells.size = size) (hsz : 0 < size)
    (v : Value) (n : Nat) (xs : List Value) (hs : a.eval s = v) (hown : Lies w e size v n xs)
    (u : Value) (m : Nat) (ys : List Value) (hx : a.eval x = u) (hsrc : Lies w e size u m ys) (h1 : ∀ y ∈ ys, y.oneCell' = true)
    (h63 : n + m ≤ maxLen) (hbytes : (n + m) * bytes ≤ 140737488355328)
    (h : ∀ v' w', Lies w' e size v' (n + m) (xs ++ ys) → Fr v.ownBlock.toList w w' → (∀ k, v'.ownBlock = some k → v.ownBlock = some k ∨ k = w.heap.size) → K (a.put o.dst v') w') :
    if Region.wanted o (yielded ops a.tmps) = true then Oper.wp P o a w K Q else E := by
  have hw : Region.wanted o (yielded ops a.tmps) = true := by simp [Region.wanted, hgd]
  rw [if_pos hw]
  obtain ⟨v', w', hr, h2, h3, h4⟩ := run_append_any (P := P) w t o.type e z size bytes ht hi hzs hsz v n xs hown u m ys hsrc h1 h63 hbytes
  unfold Oper.wp execOp
  simp only [ho, resolve, invoke, builtin, Sem.run_bind, Sem.run_pure, Result.andThen_ok, List.map_toArray, List.map_cons, List.map_nil, hs, hx, hr]
  exact h v' w' h2 h3 h4

/-- the cells of zero elements -/
theorem made_rows (z : Array Value) (hz : 0 < z.size) : ∀ n, (madeCells z (n * z.size)).toList = (List.replicate n z.toList).flatten := by
  have hg : ∀ n, (madeCells z n).toList = (List.range n).map fun j => z[j % z.size]! := by intro n; simp [madeCells, Array.toList_range]
  intro n
  rw [hg]
  induction n with
  | zero => simp
  | succ n ih =>
    rw [Nat.add_mul, Nat.one_mul, List.range_add, List.map_append, ih, List.replicate_succ', List.flatten_append]
    congr 1
    simp only [List.map_map, List.flatten_cons, List.flatten_nil, List.append_nil]
    apply List.ext_getElem?
    intro j
    by_cases hj : j < z.size
    · have : (n * z.size + j) % z.size = j := by rw [Nat.add_comm, Nat.add_mul_mod_self_right, Nat.mod_eq_of_lt hj]
      simp [hj, this, getElem!_pos]
    · simp [hj]
theorem wpList_make_any {P : Program} {w : World} {ops : Array Oper} {rest : List Oper} {o : Oper} {a : Act} {Q : Exit → Act → World → Prop}
    (hg : o.guard = none) (l c : Operand) (t e : TypeId) (z : Value) (size bytes : Nat) (hop : o.op = Op.makeSlice t l c)
    (ht : P.underlying t = some (.slice e)) (hi : (P.info? e).map (fun i => (i.zero, i.size, i.bytes)) = some (some z, size, bytes)) (hz : z.cells.size = size) (hsz : 0 < size)
    (n : Nat) (hl : a.eval l = .int .i64 n) (hc : a.eval c = .int .i64 n) (b2 : bytes * n ≤ 281474976710656) (b3 : n ≤ maxLen)
    (hK : ∀ w', w'.ownsRow 0 e size (.slice (some ⟨w.heap.size, 0, none⟩) n n) n (List.replicate n z.cells.toList).flatten → Fr [] w w' → wpList P ops Q rest (a.put o.dst (.slice (some ⟨w.heap.size, 0, none⟩) n n)) w') :
    wpList P ops Q (o :: rest) a w := by
  obtain ⟨i, hi, hz0, hz1, hz2⟩ := info_parts hi
  refine wpList_make_full w hg l c t hop 0 e i z size ht hi hz0 hz1 .i64 .i64 _ _ n hl hc rfl rfl (by rw [hz2]; exact b2) b3 (Nat.zero_le _) ?_
  intro w' h1 h2
  subst hz
  rw [made_rows _ hsz] at h1
  exact hK w' h1 (Fr.of_grown h2)

/-- a literal without elements, and of one -/
theorem lies_empty (w : World) (e : TypeId) (size B : Nat) (hB : w.heap.size = B) : Lies (w.alloc (.cells #[] e)) e size (.slice (some ⟨B, 0, none⟩) 0 0) 0 [] := by
  subst hB
  exact ⟨by simp, Or.inr ⟨_, 0, 0, #[], rfl, new_block _ _, Nat.le_refl _, Nat.zero_le _, by simp, by simp⟩⟩
theorem lies_one (w : World) (e : TypeId) (x : Value) (B : Nat) (hB : w.heap.size = B) : Lies (w.alloc (.cells #[x] e)) e 1 (.slice (some ⟨B, 0, none⟩) 1 1) 1 [x] := Lies.of_own (own_one w e x B hB)
theorem one_int (k : IntKind) (x : Int) : ∀ y ∈ [Value.int k x], y.oneCell' = true := by intro y hy; simp at hy; subst hy; rfl
theorem one_bool (x : Bool) : ∀ y ∈ [Value.bool x], y.oneCell' = true := by intro y hy; simp at hy; subst hy; rfl
theorem one_ints {α : Type} (k : IntKind) (f : α → Int) (ys : List α) : ∀ y ∈ ys.map (fun a => Value.int k (f a)), y.oneCell' = true := by
  intro y hy
  obtain ⟨x, _, rfl⟩ := List.mem_map.1 hy
  rfl
theorem one_bools {α : Type} (f : α → Bool) (ys : List α) : ∀ y ∈ ys.map (fun a => Value.bool (f a)), y.oneCell' = true := by
  intro y hy
  obtain ⟨x, _, rfl⟩ := List.mem_map.1 hy
  rfl
theorem blk_alloc {w : World} {p : Nat} {o : Obj} (h : w.heap[p]? = some o) (x : Obj) : (w.alloc x).heap[p]? = some o := by
  rw [Below.heap_alloc _ _ _ (lt_of_block h)]; exact h
theorem blk_new2 (w : World) (a b : Obj) : ((w.alloc a).alloc b).heap[w.heap.size]? = some a := blk_alloc (new_block w a) b
/-- where s[k:] lies -/
def CutAt (off k size c off' : Nat) : Prop := off' = off + k * size ∨ (c = k ∧ off' = off)
/-- s[k:] -/
theorem wpList_slice_from {P : Program} {w : World} {ops : Array Oper} {rest : List Oper} {o : Oper} {a : Act} {Q : Exit → Act → World → Prop} (hgd : o.guard = none) (x lo : Operand) (t e : TypeId) (z : Value) (size bytes : Nat)
    (ho : o.op = .slice t x (some lo) none none)
    (ht : P.underlying t = some (.slice e)) (hi : (P.info? e).map (fun i => (i.zero, i.size, i.bytes)) = some (some z, size, bytes))
    (g off n c k m : Nat) (hx : a.eval x = .slice (some ⟨g, off, none⟩) n c) (hl : a.eval lo = .int .i64 k) (hm : n = m + k) (hc : n ≤ c)
    (h : ∀ off', CutAt off k size c off' → wpList P ops Q rest (a.put o.dst (.slice (some ⟨g, off', none⟩) m (c - k))) w) :
    wpList P ops Q (o :: rest) a w := by
  refine wpList_plain hgd fun K hK => ?_
  obtain ⟨i, hi, hz0, hz1, hz2⟩ := info_parts hi
  subst hm
  have hel : P.elem t = e := by simp [Program.elem, ht]
  have hr : ∀ w, (Instr.sliceAt t (.slice (some ⟨g, off, none⟩) (m + k) c) (some (.int .i64 (k : Int))) none none).run P w = .ok (.slice (some (if c = k then ⟨g, off, none⟩ else ⟨g, off + k * size, none⟩)) m (c - k)) w := by
    intro w
    rw [run_sliceAt_slice _ _ _ _ _ _ (by rw [ht, hel]), run_slice_l (ht := by rw [ht, hel]) (h0 := by omega) (h1 := by omega)]
    simp only [hel, sizeOf, typeInfo, hi, hz1, sliced, Int.toNat_natCast, Sem.run_bind, Sem.run_pure, Result.andThen_ok, run_program]
    have e1 : m + k - k = m := by omega
    by_cases hck : c = k <;> simp [hck, Addr.add_lit, Result.andThen, e1]
  unfold Oper.wp execOp
  simp only [ho, hx, hl, Option.map_some, Option.map_none, Sem.run_bind, Result.andThen_ok, hr, Sem.run_pure]
  refine hK _ _ ?_
  by_cases hck : c = k
  · rw [if_pos hck]; exact h off (Or.inr ⟨hck, rfl⟩)
  · rw [if_neg hck]; exact h _ (Or.inl rfl)

theorem boxes4 {S : List Nat} {w w1 : World} {a b c d : Obj} (hf : Fr S ((((w.alloc a).alloc b).alloc c).alloc d) w1) (h0 : w.heap.size ∉ S) (h1 : w.heap.size + 1 ∉ S) (h2 : w.heap.size + 1 + 1 ∉ S) :
    w1.heap[w.heap.size]? = some a ∧ w1.heap[w.heap.size + 1]? = some b ∧ w1.heap[w.heap.size + 1 + 1]? = some c := by
  refine ⟨hf.keep (blk_alloc (blk_alloc (blk_alloc (new_block w a) b) c) d) h0, hf.keep (blk_alloc (blk_alloc ?_ c) d) h1, hf.keep (blk_alloc ?_ d) h2⟩
  · have := new_block (w.alloc a) b; simpa using this
  · have := new_block ((w.alloc a).alloc b) c; simpa using this
theorem cs_same {w : World} {a : Addr} {u : Value} (v : Value) (h : w.cell? a = some u) : (w.setCell a v).cell? a = some v := by
  apply World.cell?_setCell_same (w := w) (a := a) (h := h)
theorem cs_other {w : World} {b : Addr} {u : Value} (a : Addr) (v : Value) (h : w.cell? b = some u) (hn : a ≠ b) : (w.setCell a v).cell? b = some u := by
  rw [← h]; apply World.cell?_setCell_other (h := hn)
theorem fs_any {w : World} {b : Addr} {c : Bool} (a : Addr) (v : Value) (h : w.frozen? b = c) : (w.setCell a v).frozen? b = c := by
  rw [World.frozen?_setCell]; exact h
theorem addr_ne {b o c p : Nat} (h : b ≠ c ∨ o ≠ p) : (⟨b, o, none⟩ : Addr) ≠ ⟨c, p, none⟩ := by intro e; simp only [Addr.mk.injEq, and_true] at e; omega
theorem Fr.setNew {S : List Nat} {a w : World} (h : Fr S a w) {b o : Nat} (hp : a.heap.size ≤ b) (u : Value) : Fr S a (w.setCell ⟨b, o, none⟩ u) := h.setCell (Or.inr hp) u
theorem Fr.set2 {S : List Nat} {a w : World} (h : Fr S a w) {b : Nat} (hp : a.heap.size ≤ b) (u0 u1 : Value) : Fr S a ((w.setCell ⟨b, 0, none⟩ u0).setCell ⟨b, 1, none⟩ u1) := ((h.setNew hp u0).setNew hp u1)
theorem Fr.set3 {S : List Nat} {a w : World} (h : Fr S a w) {b : Nat} (hp : a.heap.size ≤ b) (u0 u1 u2 : Value) : Fr S a (((w.setCell ⟨b, 0, none⟩ u0).setCell ⟨b, 1, none⟩ u1).setCell ⟨b, 2, none⟩ u2) := (((h.setNew hp u0).setNew hp u1).setNew hp u2)
theorem Fr.set4 {S : List Nat} {a w : World} (h : Fr S a w) {b : Nat} (hp : a.heap.size ≤ b) (u0 u1 u2 u3 : Value) : Fr S a ((((w.setCell ⟨b, 0, none⟩ u0).setCell ⟨b, 1, none⟩ u1).setCell ⟨b, 2, none⟩ u2).setCell ⟨b, 3, none⟩ u3) := ((((h.setNew hp u0).setNew hp u1).setNew hp u2).setNew hp u3)
theorem Fr.set5 {S : List Nat} {a w : World} (h : Fr S a w) {b : Nat} (hp : a.heap.size ≤ b) (u0 u1 u2 u3 u4 : Value) : Fr S a (((((w.setCell ⟨b, 0, none⟩ u0).setCell ⟨b, 1, none⟩ u1).setCell ⟨b, 2, none⟩ u2).setCell ⟨b, 3, none⟩ u3).setCell ⟨b, 4, none⟩ u4) := (((((h.setNew hp u0).setNew hp u1).setNew hp u2).setNew hp u3).setNew hp u4)
theorem Fr.set6 {S : List Nat} {a w : World} (h : Fr S a w) {b : Nat} (hp : a.heap.size ≤ b) (u0 u1 u2 u3 u4 u5 : Value) : Fr S a ((((((w.setCell ⟨b, 0, none⟩ u0).setCell ⟨b, 1, none⟩ u1).setCell ⟨b, 2, none⟩ u2).setCell ⟨b, 3, none⟩ u3).setCell ⟨b, 4, none⟩ u4).setCell ⟨b, 5, none⟩ u5) := ((((((h.setNew hp u0).setNew hp u1).setNew hp u2).setNew hp u3).setNew hp u4).setNew hp u5)
theorem Fr.set7 {S : List Nat} {a w : World} (h : Fr S a w) {b : Nat} (hp : a.heap.size ≤ b) (u0 u1 u2 u3 u4 u5 u6 : Value) : Fr S a (((((((w.setCell ⟨b, 0, none⟩ u0).setCell ⟨b, 1, none⟩ u1).setCell ⟨b, 2, none⟩ u2).setCell ⟨b, 3, none⟩ u3).setCell ⟨b, 4, none⟩ u4).setCell ⟨b, 5, none⟩ u5).setCell ⟨b, 6, none⟩ u6) := (((((((h.setNew hp u0).setNew hp u1).setNew hp u2).setNew hp u3).setNew hp u4).setNew hp u5).setNew hp u6)
theorem Fr.set8 {S : List Nat} {a w : World} (h : Fr S a w) {b : Nat} (hp : a.heap.size ≤ b) (u0 u1 u2 u3 u4 u5 u6 u7 : Value) : Fr S a ((((((((w.setCell ⟨b, 0, none⟩ u0).setCell ⟨b, 1, none⟩ u1).setCell ⟨b, 2, none⟩ u2).setCell ⟨b, 3, none⟩ u3).setCell ⟨b, 4, none⟩ u4).setCell ⟨b, 5, none⟩ u5).setCell ⟨b, 6, none⟩ u6).setCell ⟨b, 7, none⟩ u7) := ((((((((h.setNew hp u0).setNew hp u1).setNew hp u2).setNew hp u3).setNew hp u4).setNew hp u5).setNew hp u6).setNew hp u7)
theorem Fr.set9 {S : List Nat} {a w : World} (h : Fr S a w) {b : Nat} (hp : a.heap.size ≤ b) (u0 u1 u2 u3 u4 u5 u6 u7 u8 : Value) : Fr S a (((((((((w.setCell ⟨b, 0, none⟩ u0).setCell ⟨b, 1, none⟩ u1).setCell ⟨b, 2, none⟩ u2).setCell ⟨b, 3, none⟩ u3).setCell ⟨b, 4, none⟩ u4).setCell ⟨b, 5, none⟩ u5).setCell ⟨b, 6, none⟩ u6).setCell ⟨b, 7, none⟩ u7).setCell ⟨b, 8, none⟩ u8) := (((((((((h.setNew hp u0).setNew hp u1).setNew hp u2).setNew hp u3).setNew hp u4).setNew hp u5).setNew hp u6).setNew hp u7).setNew hp u8)
theorem Fr.set10 {S : List Nat} {a w : World} (h : Fr S a w) {b : Nat} (hp : a.heap.size ≤ b) (u0 u1 u2 u3 u4 u5 u6 u7 u8 u9 : Value) : Fr S a ((((((((((w.setCell ⟨b, 0, none⟩ u0).setCell ⟨b, 1, none⟩ u1).setCell ⟨b, 2, none⟩ u2).setCell ⟨b, 3, none⟩ u3).setCell ⟨b, 4, none⟩ u4).setCell ⟨b, 5, none⟩ u5).setCell ⟨b, 6, none⟩ u6).setCell ⟨b, 7, none⟩ u7).setCell ⟨b, 8, none⟩ u8).setCell ⟨b, 9, none⟩ u9) := ((((((((((h.setNew hp u0).setNew hp u1).setNew hp u2).setNew hp u3).setNew hp u4).setNew hp u5).setNew hp u6).setNew hp u7).setNew hp u8).setNew hp u9)
/-- the cells of a block that is known whole -/
theorem cells1 {w : World} {p : Nat} {c0 : Value} {t : TypeId} (h : w.heap[p]? = some (.cells #[c0] t (0, 0))) : w.cell? ⟨p, 0, none⟩ = some c0 ∧ ∀ o, w.frozen? ⟨p, o, none⟩ = false := by
  refine ⟨?_, fun o => free_block h o⟩ <;> (rw [cell_block h]; rfl)
theorem cells2 {w : World} {p : Nat} {c0 c1 : Value} {t : TypeId} (h : w.heap[p]? = some (.cells #[c0, c1] t (0, 0))) : w.cell? ⟨p, 0, none⟩ = some c0 ∧ w.cell? ⟨p, 1, none⟩ = some c1 ∧ ∀ o, w.frozen? ⟨p, o, none⟩ = false := by
  refine ⟨?_, ?_, fun o => free_block h o⟩ <;> (rw [cell_block h]; rfl)
theorem cells3 {w : World} {p : Nat} {c0 c1 c2 : Value} {t : TypeId} (h : w.heap[p]? = some (.cells #[c0, c1, c2] t (0, 0))) : w.cell? ⟨p, 0, none⟩ = some c0 ∧ w.cell? ⟨p, 1, none⟩ = some c1 ∧ w.cell? ⟨p, 2, none⟩ = some c2 ∧ ∀ o, w.frozen? ⟨p, o, none⟩ = false := by
  refine ⟨?_, ?_, ?_, fun o => free_block h o⟩ <;> (rw [cell_block h]; rfl)
theorem cells4 {w : World} {p : Nat} {c0 c1 c2 c3 : Value} {t : TypeId} (h : w.heap[p]? = some (.cells #[c0, c1, c2, c3] t (0, 0))) : w.cell? ⟨p, 0, none⟩ = some c0 ∧ w.cell? ⟨p, 1, none⟩ = some c1 ∧ w.cell? ⟨p, 2, none⟩ = some c2 ∧ w.cell? ⟨p, 3, none⟩ = some c3 ∧ ∀ o, w.frozen? ⟨p, o, none⟩ = false := by
  refine ⟨?_, ?_, ?_, ?_, fun o => free_block h o⟩ <;> (rw [cell_block h]; rfl)
theorem cells5 {w : World} {p : Nat} {c0 c1 c2 c3 c4 : Value} {t : TypeId} (h : w.heap[p]? = some (.cells #[c0, c1, c2, c3, c4] t (0, 0))) : w.cell? ⟨p, 0, none⟩ = some c0 ∧ w.cell? ⟨p, 1, none⟩ = some c1 ∧ w.cell? ⟨p, 2, none⟩ = some c2 ∧ w.cell? ⟨p, 3, none⟩ = some c3 ∧ w.cell? ⟨p, 4, none⟩ = some c4 ∧ ∀ o, w.frozen? ⟨p, o, none⟩ = false := by
  refine ⟨?_, ?_, ?_, ?_, ?_, fun o => free_block h o⟩ <;> (rw [cell_block h]; rfl)
theorem cells6 {w : World} {p : Nat} {c0 c1 c2 c3 c4 c5 : Value} {t : TypeId} (h : w.heap[p]? = some (.cells #[c0, c1, c2, c3, c4, c5] t (0, 0))) : w.cell? ⟨p, 0, none⟩ = some c0 ∧ w.cell? ⟨p, 1, none⟩ = some c1 ∧ w.cell? ⟨p, 2, none⟩ = some c2 ∧ w.cell? ⟨p, 3, none⟩ = some c3 ∧ w.cell? ⟨p, 4, none⟩ = some c4 ∧ w.cell? ⟨p, 5, none⟩ = some c5 ∧ ∀ o, w.frozen? ⟨p, o, none⟩ = false := by
  refine ⟨?_, ?_, ?_, ?_, ?_, ?_, fun o => free_block h o⟩ <;> (rw [cell_block h]; rfl)
theorem cells7 {w : World} {p : Nat} {c0 c1 c2 c3 c4 c5 c6 : Value} {t : TypeId} (h : w.heap[p]? = some (.cells #[c0, c1, c2, c3, c4, c5, c6] t (0, 0))) : w.cell? ⟨p, 0, none⟩ = some c0 ∧ w.cell? ⟨p, 1, none⟩ = some c1 ∧ w.cell? ⟨p, 2, none⟩ = some c2 ∧ w.cell? ⟨p, 3, none⟩ = some c3 ∧ w.cell? ⟨p, 4, none⟩ = some c4 ∧ w.cell? ⟨p, 5, none⟩ = some c5 ∧ w.cell? ⟨p, 6, none⟩ = some c6 ∧ ∀ o, w.frozen? ⟨p, o, none⟩ = false := by
  refine ⟨?_, ?_, ?_, ?_, ?_, ?_, ?_, fun o => free_block h o⟩ <;> (rw [cell_block h]; rfl)
theorem cells8 {w : World} {p : Nat} {c0 c1 c2 c3 c4 c5 c6 c7 : Value} {t : TypeId} (h : w.heap[p]? = some (.cells #[c0, c1, c2, c3, c4, c5, c6, c7] t (0, 0))) : w.cell? ⟨p, 0, none⟩ = some c0 ∧ w.cell? ⟨p, 1, none⟩ = some c1 ∧ w.cell? ⟨p, 2, none⟩ = some c2 ∧ w.cell? ⟨p, 3, none⟩ = some c3 ∧ w.cell? ⟨p, 4, none⟩ = some c4 ∧ w.cell? ⟨p, 5, none⟩ = some c5 ∧ w.cell? ⟨p, 6, none⟩ = some c6 ∧ w.cell? ⟨p, 7, none⟩ = some c7 ∧ ∀ o, w.frozen? ⟨p, o, none⟩ = false := by
  refine ⟨?_, ?_, ?_, ?_, ?_, ?_, ?_, ?_, fun o => free_block h o⟩ <;> (rw [cell_block h]; rfl)
theorem cells9 {w : World} {p : Nat} {c0 c1 c2 c3 c4 c5 c6 c7 c8 : Value} {t : TypeId} (h : w.heap[p]? = some (.cells #[c0, c1, c2, c3, c4, c5, c6, c7, c8] t (0, 0))) : w.cell? ⟨p, 0, none⟩ = some c0 ∧ w.cell? ⟨p, 1, none⟩ = some c1 ∧ w.cell? ⟨p, 2, none⟩ = some c2 ∧ w.cell? ⟨p, 3, none⟩ = some c3 ∧ w.cell? ⟨p, 4, none⟩ = some c4 ∧ w.cell? ⟨p, 5, none⟩ = some c5 ∧ w.cell? ⟨p, 6, none⟩ = some c6 ∧ w.cell? ⟨p, 7, none⟩ = some c7 ∧ w.cell? ⟨p, 8, none⟩ = some c8 ∧ ∀ o, w.frozen? ⟨p, o, none⟩ = false := by
  refine ⟨?_, ?_, ?_, ?_, ?_, ?_, ?_, ?_, ?_, fun o => free_block h o⟩ <;> (rw [cell_block h]; rfl)
theorem cells10 {w : World} {p : Nat} {c0 c1 c2 c3 c4 c5 c6 c7 c8 c9 : Value} {t : TypeId} (h : w.heap[p]? = some (.cells #[c0, c1, c2, c3, c4, c5, c6, c7, c8, c9] t (0, 0))) : w.cell? ⟨p, 0, none⟩ = some c0 ∧ w.cell? ⟨p, 1, none⟩ = some c1 ∧ w.cell? ⟨p, 2, none⟩ = some c2 ∧ w.cell? ⟨p, 3, none⟩ = some c3 ∧ w.cell? ⟨p, 4, none⟩ = some c4 ∧ w.cell? ⟨p, 5, none⟩ = some c5 ∧ w.cell? ⟨p, 6, none⟩ = some c6 ∧ w.cell? ⟨p, 7, none⟩ = some c7 ∧ w.cell? ⟨p, 8, none⟩ = some c8 ∧ w.cell? ⟨p, 9, none⟩ = some c9 ∧ ∀ o, w.frozen? ⟨p, o, none⟩ = false := by
  refine ⟨?_, ?_, ?_, ?_, ?_, ?_, ?_, ?_, ?_, ?_, fun o => free_block h o⟩ <;> (rw [cell_block h]; rfl)
theorem Lies.alloc {w : World} {e : TypeId} {size n : Nat} {v : Value} {xs : List Value} (h : Lies w e size v n xs) (o : Obj) : Lies (w.alloc o) e size v n xs := h.keep ((Fr.refl [] w).alloc o) (by simp)
theorem Lies.drew {w : World} {e : TypeId} {size n : Nat} {v : Value} {xs : List Value} (h : Lies w e size v n xs) : Lies w.drew e size v n xs := h
end Go.Proofs.Ytmhiolhgofackaa
