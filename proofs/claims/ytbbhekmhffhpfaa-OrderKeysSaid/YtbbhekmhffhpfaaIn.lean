/- ROWS THAT ARE ONLY READ (an argument's, a result's): where their elements' cells lie; append FROM them -/
import Derived.Test.YtbbhekmhffhpfaaEvAt
namespace Go.Proofs.Ytbbhekmhffhpfaa
open Go.RowKit
set_option linter.unusedVariables false
set_option linter.unusedSimpArgs false

section
variable {α : Type} {cs : α → List Value} {sz : Nat} {e : TypeId} {w w' : World} {v : Value} {l : List α}
/-- a slice whose elements can be read -/
def LIn (cs : α → List Value) (sz : Nat) (w : World) (v : Value) (l : List α) : Prop :=
  ∃ a c, v = .slice a l.length c ∧ l.length ≤ c ∧ c ≤ maxLen ∧ (0 < l.length → ∃ g off, a = some ⟨g, off, none⟩ ∧ g < w.heap.size ∧ ∀ i x, l[i]? = some x → ∀ j, j < sz → w.cell? ⟨g, off + (i * sz + j), none⟩ = (cs x)[j]?)
theorem LIn.keep0 (h : LIn cs sz w v l) (hf : Fr [] w w') : LIn cs sz w' v l := by
  obtain ⟨a, c, h1, h2, h3, h4⟩ := h
  refine ⟨a, c, h1, h2, h3, fun hl => ?_⟩
  obtain ⟨g, off, h5, h6, h7⟩ := h4 hl
  refine ⟨g, off, h5, Nat.lt_of_lt_of_le h6 hf.size, fun i x hx j hj => ?_⟩
  have h8 := h7 i x hx j hj
  cases hc : (cs x)[j]? with
  | some y => rw [hc] at h8; exact hf.cell h8 (by simp)
  | none =>
    rw [hc] at h8
    rw [← h8]
    unfold World.cell?
    rw [hf.block g h6 (by simp)]
theorem LIn.form (h : LIn cs sz w v l) : ∃ s c, v = .slice s l.length c ∧ l.length ≤ c ∧ c ≤ maxLen := by
  obtain ⟨a, c, h1, h2, h3, _⟩ := h
  exact ⟨a, c, h1, h2, h3⟩
theorem LIn.here (h : LIn cs sz w v l) (hn : 0 < l.length) : ∃ g off c, v = .slice (some ⟨g, off, none⟩) l.length c ∧ g < w.heap.size ∧ l.length ≤ c ∧ ∀ i x, l[i]? = some x → ∀ j, j < sz → w.cell? ⟨g, off + (i * sz + j), none⟩ = (cs x)[j]? := by
  obtain ⟨a, c, h1, h2, h3, h4⟩ := h
  obtain ⟨g, off, rfl, h6, h7⟩ := h4 hn
  exact ⟨g, off, c, h1, h6, h2, h7⟩
theorem LIn.lt {g off c : Nat} (h : LIn cs sz w (.slice (some ⟨g, off, none⟩) l.length c) l) (hn : 0 < l.length) : g < w.heap.size := by
  obtain ⟨g', off', c', hv, h1, _⟩ := h.here hn
  cases hv; exact h1
theorem LAt.read (h : LAt cs e sz w v l) (hc : ∀ x, (cs x).length = sz) : LIn cs sz w v l := by
  obtain ⟨s, c, h1, h2, h3⟩ := h.form
  refine ⟨s, c, h1, h2, h3, fun hl => ?_⟩
  obtain ⟨g, off, c', hv, h4, h5, h6⟩ := h.here hc hl
  rw [hv] at h1
  cases h1
  exact ⟨g, off, rfl, h4, fun i x hx j hj => (h6 i x hx j hj).1⟩
theorem LIn.nil (w : World) : LIn cs sz w (.slice none 0 0) [] := ⟨none, 0, rfl, Nat.le_refl _, Nat.zero_le _, fun h => by simp at h⟩

/-- what is appended: cells that can be read -/
def Src (w : World) (size : Nat) (u : Value) (m : Nat) (ys : List Value) : Prop :=
  ys.length = m * size ∧ ∃ ua uc, u = .slice ua m uc ∧ (0 < m → ∃ g off, ua = some ⟨g, off, none⟩ ∧ ∀ j y, ys[j]? = some y → w.cell? ⟨g, off + j, none⟩ = some y)
theorem LIn.src (h : LIn cs sz w v l) (hc : ∀ x, (cs x).length = sz) (hs : 0 < sz) : Src w sz v l.length (allC cs l) := by
  refine ⟨allC_len hc l, ?_⟩
  obtain ⟨a, c, h1, h2, h3, h4⟩ := h
  refine ⟨a, c, h1, fun hl => ?_⟩
  obtain ⟨g, off, h5, h6, h7⟩ := h4 hl
  refine ⟨g, off, h5, fun j y hy => ?_⟩
  have hj : j < l.length * sz := by rw [← allC_len hc l]; exact (List.getElem?_eq_some_iff.1 hy).1
  have hi : j / sz < l.length := Nat.div_lt_of_lt_mul (by rw [Nat.mul_comm]; exact hj)
  have hx : l[j / sz]? = some (l[j / sz]) := List.getElem?_eq_getElem hi
  have hr : j % sz < sz := Nat.mod_lt _ hs
  have h8 := h7 _ _ hx (j % sz) hr
  have h9 := allC_at hc l _ _ hx (j % sz) hr
  have hd : j / sz * sz + j % sz = j := by rw [Nat.mul_comm]; exact Nat.div_add_mod j sz
  rw [hd] at h8 h9
  rw [h8, ← h9, hy]
theorem Src.keep {size m : Nat} {u : Value} {ys : List Value} (h : Src w size u m ys) (hf : Fr [] w w') : Src w' size u m ys := by
  obtain ⟨h1, ua, uc, h2, h3⟩ := h
  refine ⟨h1, ua, uc, h2, fun hm => ?_⟩
  obtain ⟨g, off, h4, h5⟩ := h3 hm
  exact ⟨g, off, h4, fun j y hy => hf.cell (h5 j y hy) (by simp)⟩
end

/-- append FROM A ROW THAT IS READ, to one's own -/
theorem run_append_src {P : Program} (w : World) (t ty e : TypeId) (z : Value) (size bytes : Nat)
    (ht : P.underlying t = some (.slice e)) (hi : (P.info? e).map (fun i => (i.zero, i.size, i.bytes)) = some (some z, size, bytes)) (hzs : z.cells.size = size) (hsz : 0 < size)
    (v : Value) (n : Nat) (xs : List Value) (hown : Lies w e size v n xs)
    (u : Value) (m : Nat) (ys : List Value) (hsrc : Src w size u m ys) (h1 : ∀ y ∈ ys, y.oneCell' = true)
    (h63 : n + m ≤ maxLen) (hbytes : (n + m) * bytes ≤ 140737488355328) :
    ∃ v' w', (Builtin.append_ #[t, t] ty #[v, u]).run P w = .ok v' w' ∧ Lies w' e size v' (n + m) (xs ++ ys) ∧ Fr v.ownBlock.toList w w' ∧ (∀ k, v'.ownBlock = some k → v.ownBlock = some k ∨ k = w.heap.size) := by
  obtain ⟨i, hi', hz0, hz1, hz2⟩ := info_parts hi
  clear hi
  have hi := hi'
  clear hi'
  obtain ⟨hl, ua, uc, rfl, hu⟩ := hsrc
  rcases Nat.eq_zero_or_pos m with rfl | hm
  · obtain rfl : ys = [] := List.eq_nil_of_length_eq_zero (by simpa using hl)
    refine ⟨v, w, ?_, by simpa using hown, Fr.refl _ _, fun k hk => Or.inl hk⟩
    rcases hown.2 with ⟨rfl, rfl⟩ | ⟨g, off, cap, cur, rfl, hg, h5, _⟩
    · cases ua <;> simp [Builtin.append_, run_underlying ht, sizeOf, typeInfo, hi, Builtin.lenOf, Builtin.firstCells, loadCellsFrom, loadCells]
    · cases ua <;> simp [Builtin.append_, run_underlying ht, sizeOf, typeInfo, hi, Builtin.lenOf, Builtin.firstCells, h5, storeCells, loadCellsFrom, loadCells]
  · obtain ⟨ug, uo, rfl, hu2⟩ := hu hm
    have hnews : ∀ j y, ys[j]? = some y → w.cell? ((⟨ug, uo, none⟩ : Addr).add j) = some y := by
      intro j y hj
      rw [Addr.add_lit]; exact hu2 j y hj
    rcases hown.2 with ⟨rfl, rfl⟩ | ⟨g, off, cap, cur, rfl, hg, h5, h6, h7, h8⟩
    · obtain rfl : xs = [] := List.eq_nil_of_length_eq_zero (by simpa using hown.1)
      obtain ⟨v', w', hrun, r1, r2, _⟩ := run_append_own (P := P) w w.heap.size t ty e i z size bytes ht hi hz0 hz1 hz2 hzs hsz (.slice none 0 0) 0 [] (World.ownsRow_nil w _ e size) ⟨ug, uo, none⟩ m uc ys hl hnews h1 h63 hbytes (Nat.le_refl _)
      obtain ⟨v'', w'', hrun', _, _, _, hat⟩ := run_append_own_at (P := P) w w.heap.size t ty e i z size bytes ht hi hz0 hz1 hz2 hzs hsz (.slice none 0 0) 0 [] (World.ownsRow_nil w _ e size) ⟨ug, uo, none⟩ m uc ys hl hnews h1 h63 hbytes (Nat.le_refl _)
      have heq : v'' = v' := by rw [hrun] at hrun'; cases hrun'; rfl
      subst heq
      refine ⟨v'', w', hrun, Lies.of_own (r1.mono (Nat.zero_le _)), Fr.of_grown r2, fun k hk => ?_⟩
      rcases hat with hat | hat
      · rw [hat] at hk; exact Or.inl hk
      · rw [hat] at hk; exact Or.inr (by simpa using hk.symm)
    · by_cases hroom : n + m ≤ cap
      · subst hz1
        have hcap : (n + m) * i.size ≤ cap * i.size := Nat.mul_le_mul_right _ hroom
        have hmul : (n + m) * i.size = n * i.size + m * i.size := Nat.add_mul _ _ _
        have hin : ∀ j, j < ys.length → off + n * i.size + j < cur.size := fun j hj => by omega
        have hrun := run_append_room_cells (P := P) w t ty e i ht hi g off n cap ⟨ug, uo, none⟩ m uc ys hl hnews h1 hroom
          (fun j hj => by rw [cell_block hg, Array.getElem?_eq_getElem (hin j hj)]; rfl) (fun j hj => free_block hg _)
        obtain ⟨cur', q1, q2, q3⟩ := setCells_block ys (off + n * i.size) w cur hg (by omega)
        refine ⟨_, _, hrun, ⟨by rw [List.length_append, hown.1, hl, hmul], Or.inr ⟨g, off, cap, cur', rfl, q1, hroom, h6, by rw [q2]; exact h7, fun j hj => ?_⟩⟩, Fr.setCells g (Or.inl (by simp [Value.ownBlock])) _ _ (Fr.refl _ _), fun k hk => Or.inl hk⟩
        rw [q3]
        have hx := hown.1
        by_cases hjn : j < n * i.size
        · rw [if_neg (by omega), List.getElem?_append_left (by omega)]
          exact h8 j hjn
        · rw [if_pos (by omega), List.getElem?_append_right (by omega)]
          congr 1
          omega
      · obtain ⟨v', w', hrun, r1, r2⟩ := run_append_arg_grows (P := P) w t ty e i z size bytes ht hi hz0 hz1 hz2 hzs hsz ⟨g, off, none⟩ n cap xs hown.1
          (fun j x hj => by
            have hjl : j < n * size := by rw [← hown.1]; exact (List.getElem?_eq_some_iff.1 hj).1
            rw [Addr.add_lit, cell_block hg, h8 j hjl, hj]) ⟨ug, uo, none⟩ m uc ys hl hnews (by omega) h63 hbytes
        have hr := run_append_grow (P := P) w t ty e i z ht hi hz0 ⟨g, off, none⟩ n cap xs (by rw [hz1]; exact hown.1) (fun j x hj => by
            have hjl : j < n * size := by rw [← hown.1]; exact (List.getElem?_eq_some_iff.1 hj).1
            rw [Addr.add_lit, cell_block hg, h8 j hjl, hj]) ⟨ug, uo, none⟩ m uc ys (by rw [hz1]; exact hl) hnews (by omega) (by unfold maxLen at h63; omega) (growslice_fits (by omega) (by rw [hz2]; exact hbytes))
        have hv : ∀ k, v'.ownBlock = some k → k = w.heap.size := by
          rw [hrun] at hr
          intro k hk
          cases hr
          simpa [Value.ownBlock] using hk.symm
        exact ⟨v', w', hrun, Lies.of_own (r1.mono (Nat.zero_le _)), (Fr.of_grown r2).mono (by simp), fun k hk => Or.inr (hv k hk)⟩
theorem wpList_append_src {P : Program} {w : World} {ops : Array Oper} {rest : List Oper} {o : Oper} {a : Act} {Q : Exit → Act → World → Prop} (hgd : o.guard = none) (s x : Operand) (t e : TypeId) (z : Value) (size bytes : Nat)
    (ho : o.op = .call { callee := .builtin .append, args := #[s, x], argTypes := #[t, t] })
    (ht : P.underlying t = some (.slice e)) (hi : (P.info? e).map (fun i => (i.zero, i.size, i.bytes)) = some (some z, size, bytes)) (hzs : z.cells.size = size) (hsz : 0 < size)
    (v : Value) (n : Nat) (xs : List Value) (hs : a.eval s = v) (hown : Lies w e size v n xs)
    (u : Value) (m : Nat) (ys : List Value) (hx : a.eval x = u) (hsrc : Src w size u m ys) (h1 : ∀ y ∈ ys, y.oneCell' = true)
    (h63 : n + m ≤ maxLen) (hbytes : (n + m) * bytes ≤ 140737488355328)
    (h : ∀ v' w', Lies w' e size v' (n + m) (xs ++ ys) → Fr v.ownBlock.toList w w' → (∀ k, v'.ownBlock = some k → v.ownBlock = some k ∨ k = w.heap.size) → wpList P ops Q rest (a.put o.dst v') w') :
    wpList P ops Q (o :: rest) a w := by
  refine wpList_plain hgd fun K hK => ?_
  obtain ⟨v', w', hr, h2, h3, h4⟩ := run_append_src (P := P) w t o.type e z size bytes ht hi hzs hsz v n xs hown u m ys hsrc h1 h63 hbytes
  unfold Oper.wp execOp
  simp only [ho, resolve, invoke, builtin, Sem.run_bind, Sem.run_pure, Result.andThen_ok, List.map_toArray, List.map_cons, List.map_nil, hs, hx, hr]
  exact hK _ _ (h v' w' h2 h3 h4)

/-! events and maps that are read -/
def EvIn (w : World) (v : Value) (l : List Ev) : Prop := LIn Ev.cells 4 w v l
def KvIn (w : World) (v : Value) (l : List Kv) : Prop := LIn Kv.cells 3 w v l
theorem EvIn.here {w : World} {v : Value} {l : List Ev} (h : EvIn w v l) (hn : 0 < l.length) : ∃ g off c, v = .slice (some ⟨g, off, none⟩) l.length c ∧ g < w.heap.size ∧ l.length ≤ c ∧ ∀ i x, l[i]? = some x → EvC w g (off + i * 4) x := by
  obtain ⟨g, off, c, hv, h1, h2, h3⟩ := LIn.here h hn
  refine ⟨g, off, c, hv, h1, h2, fun i x hx => ?_⟩
  have q := h3 i x hx
  have e0 := q 0 (by decide)
  have e1 := q 1 (by decide)
  have e2 := q 2 (by decide)
  have e3 := q 3 (by decide)
  rw [← Nat.add_assoc] at e0 e1 e2 e3
  exact ⟨e0, e1, e2, e3⟩
theorem KvIn.here {w : World} {v : Value} {l : List Kv} (h : KvIn w v l) (hn : 0 < l.length) : ∃ g off c, v = .slice (some ⟨g, off, none⟩) l.length c ∧ g < w.heap.size ∧ l.length ≤ c ∧ ∀ i x, l[i]? = some x → KvC w g (off + i * 3) x := by
  obtain ⟨g, off, c, hv, h1, h2, h3⟩ := LIn.here h hn
  refine ⟨g, off, c, hv, h1, h2, fun i x hx => ?_⟩
  have q := h3 i x hx
  have e0 := q 0 (by decide)
  have e1 := q 1 (by decide)
  have e2 := q 2 (by decide)
  rw [← Nat.add_assoc] at e0 e1 e2
  exact ⟨e0, e1, e2⟩
/-- rows of events that are read -/
def RowsIn (w : World) (v : Value) (rows : List (List Ev)) : Prop := ∃ vs : List Value, vs.length = rows.length ∧
  (∃ a c, v = .slice a rows.length c ∧ rows.length ≤ c ∧ c ≤ maxLen ∧ (0 < rows.length → ∃ g off, a = some ⟨g, off, none⟩ ∧ g < w.heap.size ∧ ∀ i u, vs[i]? = some u → w.cell? ⟨g, off + i, none⟩ = some u)) ∧
  ∀ (i : Nat) u r, vs[i]? = some u → rows[i]? = some r → EvIn w u r
theorem RowsIn.keep0 {w w' : World} {v : Value} {rows : List (List Ev)} (h : RowsIn w v rows) (hf : Fr [] w w') : RowsIn w' v rows := by
  obtain ⟨vs, h1, ⟨a, c, h2, h3, h4, h5⟩, h6⟩ := h
  refine ⟨vs, h1, ⟨a, c, h2, h3, h4, fun hl => ?_⟩, fun i u r hu hr => LIn.keep0 (h6 i u r hu hr) hf⟩
  obtain ⟨g, off, h7, h8, h9⟩ := h5 hl
  exact ⟨g, off, h7, Nat.lt_of_lt_of_le h8 hf.size, fun i u hu => hf.cell (h9 i u hu) (by simp)⟩
theorem RowsIn.form {w : World} {v : Value} {rows : List (List Ev)} (h : RowsIn w v rows) : ∃ s c, v = .slice s rows.length c ∧ rows.length ≤ c ∧ c ≤ maxLen := by
  obtain ⟨vs, h1, ⟨a, c, h2, h3, h4, h5⟩, h6⟩ := h
  exact ⟨a, c, h2, h3, h4⟩
/-- a row's slice, and what it has -/
theorem RowsIn.here {w : World} {v : Value} {rows : List (List Ev)} (h : RowsIn w v rows) (hn : 0 < rows.length) : ∃ g off c, v = .slice (some ⟨g, off, none⟩) rows.length c ∧ g < w.heap.size ∧ ∀ i r, rows[i]? = some r → ∃ u, w.cell? ⟨g, off + i, none⟩ = some u ∧ EvIn w u r := by
  obtain ⟨vs, h1, ⟨a, c, h2, h3, h4, h5⟩, h6⟩ := h
  obtain ⟨g, off, rfl, h8, h9⟩ := h5 hn
  refine ⟨g, off, c, h2, h8, fun i r hr => ?_⟩
  have hi : i < vs.length := by rw [h1]; exact (List.getElem?_eq_some_iff.1 hr).1
  have hu : vs[i]? = some (vs[i]) := List.getElem?_eq_getElem hi
  exact ⟨_, h9 i _ hu, h6 i _ r hu hr⟩
end Go.Proofs.Ytbbhekmhffhpfaa
