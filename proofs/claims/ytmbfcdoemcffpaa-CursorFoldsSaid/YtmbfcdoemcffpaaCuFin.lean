/- A POLL WHOSE RESULTS GO INTO TWO NEW VARIABLES: whichever is made first -/
import Derived.Test.YtmbfcdoemcffpaaCuAwake
import Derived.Test.YtmbfcdoemcffpaaCuFold
namespace Go.Proofs.Ytmbfcdoemcffpaa
open Go.RowKit
set_option linter.unusedVariables false
set_option linter.unusedSimpArgs false

theorem set4n_block {w : World} {b : Nat} {a0 a1 a2 a3 : Value} {t : TypeId} {f : Nat × Nat} (h : w.heap[b]? = some (.cells #[a0, a1, a2, a3] t f)) (v0 v1 v2 v3 : Value) :
    ((((w.setCell ⟨b, 0, none⟩ v0).setCell ⟨b, 1, none⟩ v1).setCell ⟨b, 2, none⟩ v2).setCell ⟨b, 3, none⟩ v3).heap[b]? = some (.cells #[v0, v1, v2, v3] t f) := by
  have := set_block (set_block (set_block (set_block h 0 v0) 1 v1) 2 v2) 3 v3
  simpa using this
def PollAt (T : List Nat) (wr w5 : World) (N : Nt) (s : Option Addr) (c : Nat) : Prop := RowsF T w5 (.slice s N.rows.length c) N.rows ∧ Fr [] wr w5
theorem want_few (f t : ByteArray) (rows : List (List Ev)) (a k : Nat) : (filterE f t ((rows.drop a).take k).flatten).length ≤ rows.flatten.length := by
  refine Nat.le_trans (List.length_filter_le _ _) ?_
  have h1 := take_flat (rows.drop a) k
  have h2 := congrArg (fun l : List (List Ev) => l.flatten.length) (List.take_append_drop a rows)
  simp only [List.flatten_append, List.length_append] at h2
  omega
theorem tell_len (C : Cu) (rs : List (List Ev)) : (C.tell rs).flatten.length ≤ (filterE C.f C.t rs.flatten).length := by
  cases ho : C.once with
  | true =>
    rw [once_tell ho]
    split
    · simp
    · simp only [List.flatten_cons, List.flatten_nil, List.append_nil]; exact lastE_len _
  | false => rw [full_tell ho, full_flat]; exact Nat.le_refl _
theorem tell_rows (C : Cu) (rs : List (List Ev)) : (C.tell rs).length ≤ rs.length + 1 := by
  cases ho : C.once with
  | true =>
    rw [once_tell ho]
    split <;> simp
  | false => rw [full_tell ho]; have := full_few C rs; omega
/-- a row further: what is ahead is later than its first event -/
theorem Rises.next {R : List (List Ev)} (h : Rises R) {q : Nat} {x : List Ev} {y : Ev} (hx : R[q]? = some x) (hy : x[0]? = some y) : ∀ r ∈ R.drop (q + 1), ∀ e ∈ r, y.rev < e.rev := by
  intro r hr e he
  have hd : R.drop q = x :: R.drop (q + 1) := by
    obtain ⟨hl, rfl⟩ := List.getElem?_eq_some_iff.1 hx
    exact List.drop_eq_getElem_cons hl
  have h1 : Rises (R.drop q) := List.Pairwise.sublist (List.drop_sublist _ _) h
  rw [hd] at h1
  exact (List.pairwise_cons.1 h1).1 r hr y (List.mem_of_getElem? hy) e he
/-- a poll's rows lie outside pc, and outside all that was made ahead of the call -/
def PollW (pc : Nat) (wr : World) (sz : Nat) (w5 : World) (N : Nt) (s : Option Addr) (c : Nat) : Prop := RowsF (pc :: List.range' wr.heap.size (sz - wr.heap.size)) w5 (.slice s N.rows.length c) N.rows ∧ Fr [] wr w5
section
variable {pc q q' sz : Nat} {wr w5 : World} {N : Nt} {s : Option Addr} {c : Nat}
theorem PollW.at1 (h : PollW pc wr sz w5 N s c) : PollAt [pc] wr w5 N s c := ⟨h.1.sub (by simp), h.2⟩
theorem PollW.at2 (h : PollW pc wr sz w5 N s c) (h1 : wr.heap.size ≤ q) (h2 : q < sz) : PollAt [pc, q] wr w5 N s c := ⟨h.1.sub (fun k hk => by simp at hk ⊢; omega), h.2⟩
theorem PollW.at3 (h : PollW pc wr sz w5 N s c) (h1 : wr.heap.size ≤ q) (h2 : q < sz) (h3 : wr.heap.size ≤ q') (h4 : q' < sz) : PollAt [pc, q, q'] wr w5 N s c := ⟨h.1.sub (fun k hk => by simp at hk ⊢; omega), h.2⟩
end
theorem newT {pc : Nat} {wr W : World} (hp : pc < wr.heap.size) (hW : Fr [] wr W) : ∀ k ∈ pc :: List.range' wr.heap.size (W.heap.size - wr.heap.size), k < W.heap.size := fun k hk => by
  have := hW.size
  simp at hk; omega
def PollFin (pc : Nat) (wr : World) (A : Cu) (N : Nt) (v15 v16 : Value) (W : World) : Prop :=
  ∃ q15 q16 s c, v15 = .pointer (some ⟨q15, 0, none⟩) ∧ v16 = .pointer (some ⟨q16, 0, none⟩) ∧ W.heap[q15]? = some (.cells #[.string A.f, .string A.t, .int .i64 A.next, .bool A.once, .bool A.dead] 31 (0, 0)) ∧ W.heap[q16]? = some (.cells #[.int .i64 N.err, .int .i64 N.hor, .int .i64 N.upto, .slice s N.rows.length c] 34 (0, 0)) ∧ q15 ≠ pc ∧ q16 ≠ pc ∧ q15 ≠ q16 ∧ RowsF [pc] W (.slice s N.rows.length c) N.rows ∧ Fr [] wr W
section
variable {pc q q' : Nat} {wr w5 W : World} {A : Cu} {N : Nt} {s : Option Addr} {c : Nat} {v15 v16 : Value}
theorem PollFin.drew (h : PollFin pc wr A N v15 v16 W) : PollFin pc wr A N v15 v16 W.drew := by
  obtain ⟨q15, q16, s, c, h1, h2, h3, h4, h5, h6, h7, h8, h9⟩ := h
  exact ⟨q15, q16, s, c, h1, h2, h3, h4, h5, h6, h7, h8.keep0 ((Fr.refl [] W).drew), h9.drew⟩
theorem pfin1 (h : PollAt [pc] wr w5 N s c) (hp : pc < wr.heap.size) : PollFin pc wr A N (.pointer (some ⟨w5.heap.size, 0, none⟩)) (.pointer (some ⟨w5.heap.size + 1, 0, none⟩)) ((w5.alloc (.cells #[.string A.f, .string A.t, .int .i64 A.next, .bool A.once, .bool A.dead] 31)).alloc (.cells #[.int .i64 N.err, .int .i64 N.hor, .int .i64 N.upto, .slice s N.rows.length c] 34)) := by
  have hs := h.2.size
  exact ⟨_, _, s, c, rfl, rfl, blk_new2 w5 _ _, nblk_at (by simp), by omega, by omega, by omega, h.1.keep0 (((Fr.refl [] w5).alloc _).alloc _), (h.2.alloc _).alloc _⟩
theorem pfin2 (h : PollAt [pc] wr w5 N s c) (hp : pc < wr.heap.size) : PollFin pc wr A N (.pointer (some ⟨w5.heap.size + 1, 0, none⟩)) (.pointer (some ⟨w5.heap.size, 0, none⟩)) ((w5.alloc (.cells #[.int .i64 N.err, .int .i64 N.hor, .int .i64 N.upto, .slice s N.rows.length c] 34)).alloc (.cells #[.string A.f, .string A.t, .int .i64 A.next, .bool A.once, .bool A.dead] 31)) := by
  have hs := h.2.size
  exact ⟨_, _, s, c, rfl, rfl, nblk_at (by simp), blk_new2 w5 _ _, by omega, by omega, by omega, h.1.keep0 (((Fr.refl [] w5).alloc _).alloc _), (h.2.alloc _).alloc _⟩
theorem pfin3 (h : PollAt [pc, q] wr w5 N s c) (hp : pc < wr.heap.size) (hq : wr.heap.size ≤ q) (hz : w5.heap[q]? = some (.cells #[.string ⟨#[]⟩, .string ⟨#[]⟩, .int .i64 0, .bool false, .bool false] 31 (0, 0))) : PollFin pc wr A N (.pointer (some ⟨q, 0, none⟩)) (.pointer (some ⟨w5.heap.size, 0, none⟩)) ((((((w5.setCell ⟨q, 0, none⟩ (.string A.f)).setCell ⟨q, 1, none⟩ (.string A.t)).setCell ⟨q, 2, none⟩ (.int .i64 A.next)).setCell ⟨q, 3, none⟩ (.bool A.once)).setCell ⟨q, 4, none⟩ (.bool A.dead)).alloc (.cells #[.int .i64 N.err, .int .i64 N.hor, .int .i64 N.upto, .slice s N.rows.length c] 34)) := by
  have hs := h.2.size
  have hl := lt_of_block hz
  have hf : Fr [q] w5 ((((((w5.setCell ⟨q, 0, none⟩ (.string A.f)).setCell ⟨q, 1, none⟩ (.string A.t)).setCell ⟨q, 2, none⟩ (.int .i64 A.next)).setCell ⟨q, 3, none⟩ (.bool A.once)).setCell ⟨q, 4, none⟩ (.bool A.dead)).alloc (.cells #[.int .i64 N.err, .int .i64 N.hor, .int .i64 N.upto, .slice s N.rows.length c] 34)) := (by with_reducible (repeat (first | exact Fr.refl _ _ | refine Fr.alloc ?_ _ | refine Fr.setCell ?_ (Or.inl (by simp)) _)))
  exact ⟨_, _, s, c, rfl, rfl, blk_alloc (set5_block hz _ _ _ _ _) _, nblk_at (by simp), by omega, by omega, by omega, (h.1.keep (hf.mono (by simp))).sub (by simp), h.2.trans hf (by simp; omega)⟩
theorem pfin4 (h : PollAt [pc, q] wr w5 N s c) (hp : pc < wr.heap.size) (hq : wr.heap.size ≤ q) (hz : w5.heap[q]? = some (.cells #[.int .i64 0, .int .i64 0, .int .i64 0, .slice none 0 0] 34 (0, 0))) : PollFin pc wr A N (.pointer (some ⟨w5.heap.size, 0, none⟩)) (.pointer (some ⟨q, 0, none⟩)) (((((w5.setCell ⟨q, 0, none⟩ (.int .i64 N.err)).setCell ⟨q, 1, none⟩ (.int .i64 N.hor)).setCell ⟨q, 2, none⟩ (.int .i64 N.upto)).setCell ⟨q, 3, none⟩ (.slice s N.rows.length c)).alloc (.cells #[.string A.f, .string A.t, .int .i64 A.next, .bool A.once, .bool A.dead] 31)) := by
  have hs := h.2.size
  have hl := lt_of_block hz
  have hf : Fr [q] w5 (((((w5.setCell ⟨q, 0, none⟩ (.int .i64 N.err)).setCell ⟨q, 1, none⟩ (.int .i64 N.hor)).setCell ⟨q, 2, none⟩ (.int .i64 N.upto)).setCell ⟨q, 3, none⟩ (.slice s N.rows.length c)).alloc (.cells #[.string A.f, .string A.t, .int .i64 A.next, .bool A.once, .bool A.dead] 31)) := (by with_reducible (repeat (first | exact Fr.refl _ _ | refine Fr.alloc ?_ _ | refine Fr.setCell ?_ (Or.inl (by simp)) _)))
  exact ⟨_, _, s, c, rfl, rfl, nblk_at (by simp), blk_alloc (set4n_block hz _ _ _ _) _, by omega, by omega, by omega, (h.1.keep (hf.mono (by simp))).sub (by simp), h.2.trans hf (by simp; omega)⟩
theorem pfin5 (h : PollAt [pc, q, q'] wr w5 N s c) (hp : pc < wr.heap.size) (hq : wr.heap.size ≤ q) (hq' : wr.heap.size ≤ q') (hn : q ≠ q') (hz : w5.heap[q]? = some (.cells #[.string ⟨#[]⟩, .string ⟨#[]⟩, .int .i64 0, .bool false, .bool false] 31 (0, 0))) (hz' : w5.heap[q']? = some (.cells #[.int .i64 0, .int .i64 0, .int .i64 0, .slice none 0 0] 34 (0, 0))) : PollFin pc wr A N (.pointer (some ⟨q, 0, none⟩)) (.pointer (some ⟨q', 0, none⟩)) (((((((((w5.setCell ⟨q, 0, none⟩ (.string A.f)).setCell ⟨q, 1, none⟩ (.string A.t)).setCell ⟨q, 2, none⟩ (.int .i64 A.next)).setCell ⟨q, 3, none⟩ (.bool A.once)).setCell ⟨q, 4, none⟩ (.bool A.dead)).setCell ⟨q', 0, none⟩ (.int .i64 N.err)).setCell ⟨q', 1, none⟩ (.int .i64 N.hor)).setCell ⟨q', 2, none⟩ (.int .i64 N.upto)).setCell ⟨q', 3, none⟩ (.slice s N.rows.length c)) := by
  have hf : Fr [q] w5 (((((w5.setCell ⟨q, 0, none⟩ (.string A.f)).setCell ⟨q, 1, none⟩ (.string A.t)).setCell ⟨q, 2, none⟩ (.int .i64 A.next)).setCell ⟨q, 3, none⟩ (.bool A.once)).setCell ⟨q, 4, none⟩ (.bool A.dead)) := (by with_reducible (repeat (first | exact Fr.refl _ _ | refine Fr.alloc ?_ _ | refine Fr.setCell ?_ (Or.inl (by simp)) _)))
  have hf2 : Fr [q'] (((((w5.setCell ⟨q, 0, none⟩ (.string A.f)).setCell ⟨q, 1, none⟩ (.string A.t)).setCell ⟨q, 2, none⟩ (.int .i64 A.next)).setCell ⟨q, 3, none⟩ (.bool A.once)).setCell ⟨q, 4, none⟩ (.bool A.dead)) (((((((((w5.setCell ⟨q, 0, none⟩ (.string A.f)).setCell ⟨q, 1, none⟩ (.string A.t)).setCell ⟨q, 2, none⟩ (.int .i64 A.next)).setCell ⟨q, 3, none⟩ (.bool A.once)).setCell ⟨q, 4, none⟩ (.bool A.dead)).setCell ⟨q', 0, none⟩ (.int .i64 N.err)).setCell ⟨q', 1, none⟩ (.int .i64 N.hor)).setCell ⟨q', 2, none⟩ (.int .i64 N.upto)).setCell ⟨q', 3, none⟩ (.slice s N.rows.length c)) := (by with_reducible (repeat (first | exact Fr.refl _ _ | refine Fr.alloc ?_ _ | refine Fr.setCell ?_ (Or.inl (by simp)) _)))
  have hf3 : Fr [q, q'] w5 (((((((((w5.setCell ⟨q, 0, none⟩ (.string A.f)).setCell ⟨q, 1, none⟩ (.string A.t)).setCell ⟨q, 2, none⟩ (.int .i64 A.next)).setCell ⟨q, 3, none⟩ (.bool A.once)).setCell ⟨q, 4, none⟩ (.bool A.dead)).setCell ⟨q', 0, none⟩ (.int .i64 N.err)).setCell ⟨q', 1, none⟩ (.int .i64 N.hor)).setCell ⟨q', 2, none⟩ (.int .i64 N.upto)).setCell ⟨q', 3, none⟩ (.slice s N.rows.length c)) := (by with_reducible (repeat (first | exact Fr.refl _ _ | refine Fr.alloc ?_ _ | refine Fr.setCell ?_ (Or.inl (by simp)) _)))
  exact ⟨_, _, s, c, rfl, rfl, hf2.keep (set5_block hz _ _ _ _ _) (by simpa using hn), set4n_block (hf.keep hz' (by simpa using hn.symm)) _ _ _ _, by omega, by omega, hn, (h.1.keep (hf3.mono (by simp))).sub (by simp), h.2.trans hf3 (by simp; omega)⟩
theorem pfin6 (h : PollAt [pc, q, q'] wr w5 N s c) (hp : pc < wr.heap.size) (hq : wr.heap.size ≤ q) (hq' : wr.heap.size ≤ q') (hn : q ≠ q') (hz : w5.heap[q]? = some (.cells #[.string ⟨#[]⟩, .string ⟨#[]⟩, .int .i64 0, .bool false, .bool false] 31 (0, 0))) (hz' : w5.heap[q']? = some (.cells #[.int .i64 0, .int .i64 0, .int .i64 0, .slice none 0 0] 34 (0, 0))) : PollFin pc wr A N (.pointer (some ⟨q, 0, none⟩)) (.pointer (some ⟨q', 0, none⟩)) (((((((((w5.setCell ⟨q', 0, none⟩ (.int .i64 N.err)).setCell ⟨q', 1, none⟩ (.int .i64 N.hor)).setCell ⟨q', 2, none⟩ (.int .i64 N.upto)).setCell ⟨q', 3, none⟩ (.slice s N.rows.length c)).setCell ⟨q, 0, none⟩ (.string A.f)).setCell ⟨q, 1, none⟩ (.string A.t)).setCell ⟨q, 2, none⟩ (.int .i64 A.next)).setCell ⟨q, 3, none⟩ (.bool A.once)).setCell ⟨q, 4, none⟩ (.bool A.dead)) := by
  have hf : Fr [q'] w5 ((((w5.setCell ⟨q', 0, none⟩ (.int .i64 N.err)).setCell ⟨q', 1, none⟩ (.int .i64 N.hor)).setCell ⟨q', 2, none⟩ (.int .i64 N.upto)).setCell ⟨q', 3, none⟩ (.slice s N.rows.length c)) := (by with_reducible (repeat (first | exact Fr.refl _ _ | refine Fr.alloc ?_ _ | refine Fr.setCell ?_ (Or.inl (by simp)) _)))
  have hf2 : Fr [q] ((((w5.setCell ⟨q', 0, none⟩ (.int .i64 N.err)).setCell ⟨q', 1, none⟩ (.int .i64 N.hor)).setCell ⟨q', 2, none⟩ (.int .i64 N.upto)).setCell ⟨q', 3, none⟩ (.slice s N.rows.length c)) (((((((((w5.setCell ⟨q', 0, none⟩ (.int .i64 N.err)).setCell ⟨q', 1, none⟩ (.int .i64 N.hor)).setCell ⟨q', 2, none⟩ (.int .i64 N.upto)).setCell ⟨q', 3, none⟩ (.slice s N.rows.length c)).setCell ⟨q, 0, none⟩ (.string A.f)).setCell ⟨q, 1, none⟩ (.string A.t)).setCell ⟨q, 2, none⟩ (.int .i64 A.next)).setCell ⟨q, 3, none⟩ (.bool A.once)).setCell ⟨q, 4, none⟩ (.bool A.dead)) := (by with_reducible (repeat (first | exact Fr.refl _ _ | refine Fr.alloc ?_ _ | refine Fr.setCell ?_ (Or.inl (by simp)) _)))
  have hf3 : Fr [q, q'] w5 (((((((((w5.setCell ⟨q', 0, none⟩ (.int .i64 N.err)).setCell ⟨q', 1, none⟩ (.int .i64 N.hor)).setCell ⟨q', 2, none⟩ (.int .i64 N.upto)).setCell ⟨q', 3, none⟩ (.slice s N.rows.length c)).setCell ⟨q, 0, none⟩ (.string A.f)).setCell ⟨q, 1, none⟩ (.string A.t)).setCell ⟨q, 2, none⟩ (.int .i64 A.next)).setCell ⟨q, 3, none⟩ (.bool A.once)).setCell ⟨q, 4, none⟩ (.bool A.dead)) := (by with_reducible (repeat (first | exact Fr.refl _ _ | refine Fr.alloc ?_ _ | refine Fr.setCell ?_ (Or.inl (by simp)) _)))
  exact ⟨_, _, s, c, rfl, rfl, set5_block (hf.keep hz (by simpa using hn)) _ _ _ _ _, hf2.keep (set4n_block hz' _ _ _ _) (by simpa using hn.symm), by omega, by omega, hn, (h.1.keep (hf3.mono (by simp))).sub (by simp), h.2.trans hf3 (by simp; omega)⟩
end
end Go.Proofs.Ytmbfcdoemcffpaa
