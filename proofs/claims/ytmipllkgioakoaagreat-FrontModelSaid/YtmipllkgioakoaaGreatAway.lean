/- GENERIC: ROWS THAT ARE READ AND THAT LIE OUTSIDE A STRUCTURE'S BLOCKS; ops in memory; rows of rows -/
import Derived.Test.YtmipllkgioakoaaGreatIn
import Derived.Test.YtmipllkgioakoaaGreatHs
import Derived.Test.YtmipllkgioakoaaGreatEvSel
namespace Go.Proofs.YtmipllkgioakoaaGreat
open Go.RowKit
set_option linter.unusedVariables false
set_option linter.unusedSimpArgs false

theorem Fr.old {S : List Nat} {w w' : World} (h : Fr S w w') {w0 : World} (h0 : Fr [] w0 w) (hS : ∀ k ∈ S, w0.heap.size ≤ k) : Fr [] w0 w' :=
  h0.trans h (fun k hk => Or.inr (hS k hk))
/-- of a structure's blocks: those of before, and new ones -/
def Grow (S S' : List Nat) (w : World) : Prop := ∀ k ∈ S', k ∈ S ∨ w.heap.size ≤ k
theorem Grow.refl (S : List Nat) (w : World) : Grow S S w := fun k hk => Or.inl hk
theorem Grow.trans {S S' S'' : List Nat} {w w' : World} (h : Grow S S' w) (k : Grow S' S'' w') (hs : w.heap.size ≤ w'.heap.size) : Grow S S'' w := fun x hx => by
  rcases k x hx with h1 | h1
  · exact h x h1
  · exact Or.inr (by omega)
theorem Grow.ge {S S' : List Nat} {w : World} (h : Grow S S' w) {n : Nat} (hn : n ≤ w.heap.size) (hS : ∀ k ∈ S, n ≤ k) : ∀ k ∈ S', n ≤ k := fun k hk => by
  rcases h k hk with h1 | h1
  · exact hS k h1
  · omega
section
variable {α : Type} {cs : α → List Value} {sz : Nat} {e : TypeId} {S S' : List Nat} {w w0 w' : World} {v : Value} {l : List α}
/-- a slice whose elements can be read, outside S -/
def LFar (S : List Nat) (cs : α → List Value) (sz : Nat) (w : World) (v : Value) (l : List α) : Prop :=
  LIn cs sz w v l ∧ (0 < l.length → ∀ k, v.ownBlock = some k → k ∉ S)
theorem LFar.lin (h : LFar S cs sz w v l) : LIn cs sz w v l := h.1
theorem LFar.keep (h : LFar S cs sz w v l) (hf : Fr S w w') : LFar S cs sz w' v l := by
  obtain ⟨⟨a, c, h1, h2, h3, h4⟩, hS⟩ := h
  refine ⟨⟨a, c, h1, h2, h3, fun hl => ?_⟩, hS⟩
  obtain ⟨g, off, h5, h6, h7⟩ := h4 hl
  have hg : g ∉ S := hS hl g (by rw [h1, h5]; rfl)
  refine ⟨g, off, h5, Nat.lt_of_lt_of_le h6 hf.size, fun i x hx j hj => ?_⟩
  have h8 := h7 i x hx j hj
  cases hc : (cs x)[j]? with
  | some y => rw [hc] at h8; exact hf.cell h8 hg
  | none =>
    rw [hc] at h8
    rw [← h8]
    unfold World.cell?
    rw [hf.block g h6 hg]
theorem LFar.keep0 (h : LFar S cs sz w v l) (hf : Fr [] w w') : LFar S cs sz w' v l := ⟨LIn.keep0 h.1 hf, h.2⟩
theorem LFar.grow (h : LFar S cs sz w v l) (hg : Grow S S' w) : LFar S' cs sz w v l := by
  obtain ⟨h0, hS⟩ := h
  refine ⟨h0, fun hl k hk hm => ?_⟩
  rcases hg k hm with h1 | h1
  · exact hS hl k hk h1
  · obtain ⟨g, off, c, rfl, hlt, _⟩ := h0.here hl
    simp [Value.ownBlock] at hk
    omega
/-- behind a call that changes S, and may make S greater -/
theorem LFar.step (h : LFar S cs sz w v l) (hf : Fr S w w') (hg : Grow S S' w) : LFar S' cs sz w' v l := ⟨(h.keep hf).1, (h.grow hg).2⟩
theorem LFar.linT {t : Nat} (h : LFar (t :: S) cs sz w v l) (hf : Fr [t] w w') : LIn cs sz w' v l := (h.keep (hf.mono (by simp))).1
theorem LFar.of_old (h : LIn cs sz w v l) (hS : ∀ k ∈ S, w.heap.size ≤ k) : LFar S cs sz w v l := by
  refine ⟨h, fun hl k hk hm => ?_⟩
  obtain ⟨g, off, c, rfl, hlt, _⟩ := h.here hl
  simp [Value.ownBlock] at hk
  have := hS k hm
  omega
theorem LFar.of_new (h : LIn cs sz w' v l) (hn : ∀ k, v.ownBlock = some k → w.heap.size ≤ k) (hS : ∀ k ∈ S, k < w.heap.size) : LFar S cs sz w' v l :=
  ⟨h, fun hl k hk hm => by have := hn k hk; have := hS k hm; omega⟩
theorem LFar.nil (S : List Nat) (w : World) : LFar S cs sz w (.slice none 0 0) [] := ⟨LIn.nil w, fun h => by simp at h⟩
theorem LFar.form (h : LFar S cs sz w v l) : ∃ s c, v = .slice s l.length c ∧ l.length ≤ c ∧ c ≤ maxLen := h.1.form
theorem OutAt.far (h : OutAt cs e sz w w' v l) (hc : ∀ x, (cs x).length = sz) (hS : ∀ k ∈ S, k < w.heap.size) : LFar S cs sz w' v l := LFar.of_new (LAt.read h.lies hc) h.new hS
end

/-! rows of rows -/
def uC (u : Value) : List Value := [u]
theorem uC.len (u : Value) : (uC u).length = 1 := rfl
def RowsF (S : List Nat) (w : World) (v : Value) (rows : List (List Ev)) : Prop :=
  ∃ vs : List Value, vs.length = rows.length ∧ LFar S uC 1 w v vs ∧ ∀ (i : Nat) u r, vs[i]? = some u → rows[i]? = some r → LFar S Ev.cells 4 w u r
section
variable {S S' : List Nat} {w w' : World} {v : Value} {rows : List (List Ev)}
theorem RowsF.keep (h : RowsF S w v rows) (hf : Fr S w w') : RowsF S w' v rows := by
  obtain ⟨vs, h1, h2, h3⟩ := h
  exact ⟨vs, h1, h2.keep hf, fun i u r hu hr => (h3 i u r hu hr).keep hf⟩
theorem RowsF.keep0 (h : RowsF S w v rows) (hf : Fr [] w w') : RowsF S w' v rows := by
  obtain ⟨vs, h1, h2, h3⟩ := h
  exact ⟨vs, h1, h2.keep0 hf, fun i u r hu hr => (h3 i u r hu hr).keep0 hf⟩
theorem RowsF.grow (h : RowsF S w v rows) (hg : Grow S S' w) : RowsF S' w v rows := by
  obtain ⟨vs, h1, h2, h3⟩ := h
  exact ⟨vs, h1, h2.grow hg, fun i u r hu hr => (h3 i u r hu hr).grow hg⟩
theorem RowsF.step (h : RowsF S w v rows) (hf : Fr S w w') (hg : Grow S S' w) : RowsF S' w' v rows := by
  obtain ⟨vs, h1, h2, h3⟩ := h
  exact ⟨vs, h1, h2.step hf hg, fun i u r hu hr => (h3 i u r hu hr).step hf hg⟩
theorem RowsF.nil (S : List Nat) (w : World) : RowsF S w (.slice none 0 0) [] := ⟨[], rfl, LFar.nil S w, by simp⟩
theorem RowsF.form (h : RowsF S w v rows) : ∃ s c, v = .slice s rows.length c ∧ rows.length ≤ c ∧ c ≤ maxLen := by
  obtain ⟨vs, h1, h2, h3⟩ := h
  obtain ⟨s, c, hv, k1, k2⟩ := h2.form
  rw [h1] at hv k1
  exact ⟨s, c, hv, k1, k2⟩
/-- a row's slice, and what it has -/
theorem RowsF.here (h : RowsF S w v rows) (hn : 0 < rows.length) : ∃ g off c, v = .slice (some ⟨g, off, none⟩) rows.length c ∧ g < w.heap.size ∧ ∀ i r, rows[i]? = some r → ∃ u, w.cell? ⟨g, off + i, none⟩ = some u ∧ LFar S Ev.cells 4 w u r := by
  obtain ⟨vs, h1, h2, h3⟩ := h
  obtain ⟨g, off, c, hv, hlt, hle, hat⟩ := LIn.here h2.1 (by omega)
  rw [h1] at hv
  refine ⟨g, off, c, hv, hlt, fun i r hr => ?_⟩
  have hi : i < vs.length := by rw [h1]; exact (List.getElem?_eq_some_iff.1 hr).1
  have hu : vs[i]? = some (vs[i]) := List.getElem?_eq_getElem hi
  have hcell := hat i _ hu 0 (by omega)
  refine ⟨vs[i], ?_, h3 i _ r hu hr⟩
  simpa [uC] using hcell
end

/-! ops -/
def Od.cells (x : Od) : List Value := [.string x.key, .string x.val, .bool x.del]
theorem Od.clen (x : Od) : x.cells.length = 3 := rfl
theorem Od.cone (x : Od) : ∀ y ∈ x.cells, y.oneCell' = true := by
  intro y hy
  simp only [Od.cells, List.mem_cons, List.not_mem_nil, or_false] at hy
  rcases hy with rfl | rfl | rfl <;> rfl
theorem od_slice : Tryz.prog.underlying 33 = some (.slice 87) := Tryz.underlying33
theorem od_info : (Tryz.prog.info? 87).map (fun i => (i.zero, i.size, i.bytes)) = some (some (.agg #[.string ⟨#[]⟩, .string ⟨#[]⟩, .bool false]), 3, 40) := by kernel_rfl
def OdIn (w : World) (v : Value) (l : List Od) : Prop := LIn Od.cells 3 w v l
structure OdC (w : World) (g off : Nat) (x : Od) : Prop where
  c0 : w.cell? ⟨g, off, none⟩ = some (.string x.key)
  c1 : w.cell? ⟨g, off + 1, none⟩ = some (.string x.val)
  c2 : w.cell? ⟨g, off + 2, none⟩ = some (.bool x.del)
theorem OdC.keep {w w' : World} {g off : Nat} {x : Od} {S : List Nat} (h : OdC w g off x) (hf : Fr S w w') (hg : g ∉ S) : OdC w' g off x :=
  ⟨hf.cell h.c0 hg, hf.cell h.c1 hg, hf.cell h.c2 hg⟩
theorem OdIn.here {w : World} {v : Value} {l : List Od} (h : OdIn w v l) (hn : 0 < l.length) : ∃ g off c, v = .slice (some ⟨g, off, none⟩) l.length c ∧ g < w.heap.size ∧ l.length ≤ c ∧ ∀ i x, l[i]? = some x → OdC w g (off + i * 3) x := by
  obtain ⟨g, off, c, hv, h1, h2, h3⟩ := LIn.here h hn
  refine ⟨g, off, c, hv, h1, h2, fun i x hx => ?_⟩
  have q := h3 i x hx
  have e0 := q 0 (by decide)
  have e1 := q 1 (by decide)
  have e2 := q 2 (by decide)
  rw [← Nat.add_assoc] at e0 e1 e2
  exact ⟨e0, e1, e2⟩
end Go.Proofs.YtmipllkgioakoaaGreat
