/- GENERIC LEMMAS OF MY OWN, OVER ANY PROGRAM: frames by a list of blocks, and what a store does to a block that is known whole. -/
import Derived.Test.YtmhiolhgofackaaRows
import Derived.WalkKit
import Derived.Deep.QuietTactic
import Derived.BigQuiet
import Derived.Lib.Hide
import Derived.Deep.RegionHeld3
import Derived.Deep.AppendLies
import Derived.Maps.AppendAt
import Derived.Laws.AppendOwnNone
namespace Go.Proofs.Ytmhiolhgofackaa
open Go.RowKit
set_option linter.unusedVariables false
set_option linter.unusedSimpArgs false

/-- w' is w but for the blocks of S, and for new blocks. -/
structure Fr (S : List Nat) (w w' : World) : Prop where
  os : w'.os = w.os
  tape : w'.tape = w.tape
  output : w'.output = w.output
  size : w.heap.size ≤ w'.heap.size
  block : ∀ k, k < w.heap.size → k ∉ S → w'.heap[k]? = w.heap[k]?

theorem Fr.refl (S : List Nat) (w : World) : Fr S w w := ⟨rfl, rfl, rfl, Nat.le_refl _, fun _ _ _ => rfl⟩
theorem Fr.mono {S T : List Nat} {w w' : World} (h : Fr S w w') (hs : ∀ k ∈ S, k ∈ T ∨ w.heap.size ≤ k) : Fr T w w' :=
  ⟨h.os, h.tape, h.output, h.size, fun k hk hn => h.block k hk fun hm => (hs k hm).elim hn (fun h => by omega)⟩
theorem Fr.trans {S T : List Nat} {a b c : World} (h : Fr S a b) (k : Fr T b c) (ht : ∀ x ∈ T, x ∈ S ∨ a.heap.size ≤ x) : Fr S a c :=
  ⟨k.os.trans h.os, k.tape.trans h.tape, k.output.trans h.output, Nat.le_trans h.size k.size, fun i hi hn =>
    (k.block i (Nat.lt_of_lt_of_le hi h.size) fun hm => (ht i hm).elim hn (fun h => by omega)).trans (h.block i hi hn)⟩
theorem Fr.drew {S : List Nat} {a w : World} (h : Fr S a w) : Fr S a w.drew := ⟨h.os, h.tape, h.output, h.size, h.block⟩
theorem Fr.drewN {S : List Nat} {a w : World} (h : Fr S a w) (n : Nat) : Fr S a (w.drewN n) := ⟨h.os, h.tape, h.output, h.size, h.block⟩
theorem Fr.alloc {S : List Nat} {a w : World} (h : Fr S a w) (o : Obj) : Fr S a (w.alloc o) :=
  ⟨h.os, h.tape, h.output, Nat.le_trans h.size (by simp), fun k hk hn => (Below.heap_alloc _ _ _ (Nat.lt_of_lt_of_le hk h.size)).trans (h.block k hk hn)⟩
theorem Fr.setCell {S : List Nat} {a w : World} (h : Fr S a w) {p : Addr} (hp : p.block ∈ S ∨ a.heap.size ≤ p.block) (u : Value) : Fr S a (w.setCell p u) :=
  ⟨h.os, h.tape, h.output, by rw [World.size_setCell]; exact h.size, fun k hk hn =>
    (Below.heap_setCell _ _ _ _ (fun e => hp.elim (fun hm => hn (by rw [e]; exact hm)) (fun hl => by omega))).trans (h.block k hk hn)⟩
theorem Fr.grown {S : List Nat} {a w w' : World} {row : Option Nat} (h : Fr S a w) (hg : w.grownBy w' row) (hr : ∀ k, row = some k → k ∈ S ∨ a.heap.size ≤ k) : Fr S a w' :=
  h.trans (T := row.toList) ⟨hg.os, hg.tape, hg.output, hg.size, fun k hk hn => hg.block k hk (fun e => hn (by simp [← e]))⟩ (fun x hx => hr x (by simpa using hx))
theorem Fr.of_grown {w w' : World} {row : Option Nat} (hg : w.grownBy w' row) : Fr row.toList w w' :=
  ⟨hg.os, hg.tape, hg.output, hg.size, fun k hk hn => hg.block k hk (fun e => hn (by simp [← e]))⟩
theorem Fr.below {S : List Nat} {w w' : World} (h : Fr S w w') {B : Nat} (hB : B ≤ w.heap.size) (hs : ∀ k ∈ S, B ≤ k) : Below B w w' :=
  ⟨h.os, h.tape, h.output, h.size, fun k hk => h.block k (by omega) (fun hm => by have := hs k hm; omega)⟩
theorem Fr.of_below {w w' : World} (h : Below w.heap.size w w') : Fr [] w w' := ⟨h.os, h.tape, h.output, h.size, fun k hk _ => h.block k hk⟩
/-- a slice's row in a block that did not change stays -/
theorem ownsRow_fr {S : List Nat} {w w' : World} (h : Fr S w w') {base e size n : Nat} {v : Value} {xs : List Value} (ho : w.ownsRow base e size v n xs) (hn : ∀ k, v.ownBlock = some k → k ∉ S) : w'.ownsRow base e size v n xs := by
  obtain ⟨h1, h2⟩ := ho
  refine ⟨h1, ?_⟩
  rcases h2 with h2 | ⟨g, cap, cur, hv, hg, hh, r⟩
  · exact Or.inl h2
  · refine Or.inr ⟨g, cap, cur, hv, hg, ?_, r⟩
    rw [h.block g (by rcases Nat.lt_or_ge g w.heap.size with h | h; · exact h
                      · rw [Array.getElem?_eq_none h] at hh; cases hh) (hn g (by subst hv; rfl))]
    exact hh
theorem lt_of_block {w : World} {p : Nat} {o : Obj} (h : w.heap[p]? = some o) : p < w.heap.size := by
  rcases Nat.lt_or_ge p w.heap.size with h' | h'
  · exact h'
  · rw [Array.getElem?_eq_none h'] at h; cases h
theorem Fr.keep {S : List Nat} {w w' : World} (h : Fr S w w') {p : Nat} {o : Obj} (hp : w.heap[p]? = some o) (hn : p ∉ S) : w'.heap[p]? = some o :=
  (h.block p (lt_of_block hp) hn).trans hp
theorem set_block {w : World} {p : Nat} {c : Array Value} {t : TypeId} {f : Nat × Nat} (h : w.heap[p]? = some (.cells c t f)) (i : Nat) (u : Value) :
    (w.setCell ⟨p, i, none⟩ u).heap[p]? = some (.cells (c.setIfInBounds i u) t f) := by
  simp [World.setCell, Array.getElem?_modify, h]
theorem cell_block {w : World} {p : Nat} {c : Array Value} {t : TypeId} {f : Nat × Nat} (h : w.heap[p]? = some (.cells c t f)) (i : Nat) :
    w.cell? ⟨p, i, none⟩ = c[i]? := by simp [World.cell?, h]
theorem free_block {w : World} {p : Nat} {c : Array Value} {t : TypeId} (h : w.heap[p]? = some (.cells c t (0, 0))) (i : Nat) :
    w.frozen? ⟨p, i, none⟩ = false := by simp [World.frozen?, h]
theorem new_block (w : World) (o : Obj) : (w.alloc o).heap[w.heap.size]? = some o := heap_alloc_new w o
theorem set_other {w : World} {p q : Nat} {o : Obj} (h : w.heap[p]? = some o) (hn : p ≠ q) (i : Nat) (u : Value) : (w.setCell ⟨q, i, none⟩ u).heap[p]? = some o := by
  rw [Below.heap_setCell _ _ _ _ hn]; exact h
theorem ret_tuple2 {a b c d : Value} (h : a = c) (k : b = d) : Ending.returned (.tuple #[a, b]) = .returned (.tuple #[c, d]) := by rw [h, k]
/-- one cell of a row of one-cell elements is stored -/
theorem ownsRow_set {w : World} {base e n g : Nat} {c : Nat} {xs : List Value} (ho : w.ownsRow base e 1 (.slice (some ⟨g, 0, none⟩) n c) n xs) (j : Nat) (hj : j < n) (u : Value) :
    (w.setCell ⟨g, j, none⟩ u).ownsRow base e 1 (.slice (some ⟨g, 0, none⟩) n c) n (xs.set j u) := by
  obtain ⟨h1, h2⟩ := ho
  refine ⟨by simpa using h1, ?_⟩
  rcases h2 with ⟨h, _⟩ | ⟨g', cap, cur, hv, hg, hh, h5, h6, h7, h8⟩
  · cases h
  · simp only [Value.slice.injEq, Option.some.injEq, Addr.mk.injEq, and_true, true_and] at hv
    obtain ⟨rfl, rfl⟩ := hv
    refine Or.inr ⟨g, c, cur.setIfInBounds j u, rfl, hg, set_block hh j u, h5, h6, by simpa using h7, ?_⟩
    rw [← h8, Array.toList_setIfInBounds, List.take_set]
theorem ownsRow_cell {w : World} {base e n g : Nat} {c : Nat} {xs : List Value} (ho : w.ownsRow base e 1 (.slice (some ⟨g, 0, none⟩) n c) n xs) (j : Nat) (hj : j < n) :
    w.cell? ⟨g, j, none⟩ = some (xs.getD j undef) ∧ w.frozen? ⟨g, j, none⟩ = false := by
  have h1 := ho.1
  have hc := ho.cells (g := g) rfl j (xs.getD j undef) (by rw [List.getD_eq_getElem?_getD, List.getElem?_eq_getElem (by omega)]; rfl)
  have hadd : (⟨g, 0, none⟩ : Addr).add j = ⟨g, j, none⟩ := by unfold Addr.add; split <;> simp_all
  rw [hadd] at hc
  refine ⟨hc, ?_⟩
  rcases ho.2 with ⟨h, _⟩ | ⟨g', cap, cur, hv, hg, hh, _⟩
  · cases h
  · simp only [Value.slice.injEq, Option.some.injEq, Addr.mk.injEq, and_true, true_and] at hv
    obtain ⟨rfl, rfl⟩ := hv
    exact free_block hh j
/-- a row with an element is no nil slice -/
theorem ownsRow_form {w : World} {base e n : Nat} {v : Value} {xs : List Value} (ho : w.ownsRow base e 1 v n xs) :
    (v = .slice none 0 0 ∧ n = 0) ∨ ∃ g c, v = .slice (some ⟨g, 0, none⟩) n c ∧ g < w.heap.size ∧ n ≤ c := by
  rcases ho.2 with h | ⟨g, cap, cur, hv, hg, hh, h5, _⟩
  · exact Or.inl h
  · exact Or.inr ⟨g, cap, hv, lt_of_block hh, h5⟩

/-- a slice value as a row shows it is one cell that may be stored -/
theorem row_src {w : World} {base e n : Nat} {v : Value} {xs : List Value} {size : Nat} (ho : w.ownsRow base e size v n xs) :
    (v = .slice none 0 0 ∧ n = 0 ∧ xs = []) ∨ ∃ g c, v = .slice (some ⟨g, 0, none⟩) n c ∧ g < w.heap.size ∧ ∀ j u, xs[j]? = some u → w.cell? ((⟨g, 0, none⟩ : Addr).add j) = some u := by
  rcases ho.2 with ⟨h, hn⟩ | ⟨g, cap, cur, hv, hg, hh, h5, _⟩
  · exact Or.inl ⟨h, hn, List.eq_nil_of_length_eq_zero (by rw [ho.1, hn]; simp)⟩
  · exact Or.inr ⟨g, cap, hv, lt_of_block hh, ho.cells (g := g) (by subst hv; rfl)⟩

/-- THE LAW ON append OF ONE ROW TO ANOTHER ONE, frames by blocks. -/
theorem wpList_append_fr {P : Program} {w : World} {ops : Array Oper} {rest : List Oper} {o : Oper} {a : Act} {Q : Exit → Act → World → Prop} (hgd : o.guard = none) (s x : Operand) (t e : TypeId) (z : Value) (size bytes : Nat)
    (ho : o.op = .call { callee := .builtin .append, args := #[s, x], argTypes := #[t, t] })
    (ht : P.underlying t = some (.slice e)) (hi : (P.info? e).map (fun i => (i.zero, i.size, i.bytes)) = some (some z, size, bytes)) (hzs : z.cells.size = size) (hsz : 0 < size)
    (v : Value) (n : Nat) (xs : List Value) (hs : a.eval s = v) (hown : w.ownsRow 0 e size v n xs)
    (u : Value) (m : Nat) (ys : List Value) (hx : a.eval x = u) (hsrc : w.ownsRow 0 e size u m ys) (h1 : ∀ y ∈ ys, y.oneCell' = true)
    (h63 : n + m ≤ maxLen) (hbytes : (n + m) * bytes ≤ 140737488355328)
    (h : ∀ v' w', w'.ownsRow 0 e size v' (n + m) (xs ++ ys) → Fr v.ownBlock.toList w w' → (∀ k, v'.ownBlock = some k → v.ownBlock = some k ∨ k = w.heap.size) → wpList P ops Q rest (a.put o.dst v') w') :
    wpList P ops Q (o :: rest) a w := by
  obtain ⟨i, hi, hz0, hz1, hz2⟩ := info_parts hi
  rcases row_src hsrc with ⟨rfl, rfl, rfl⟩ | ⟨g, c, rfl, _, hc⟩
  · refine wpList_append_own_none hgd s x t ho 0 e i size ht hi v n xs hs hown hx ?_
    exact h v w (by simpa using hown) (Fr.refl _ _) (fun k hk => Or.inl hk)
  · refine wpList_append_own_at w hgd s x t ho 0 e i z size bytes ht hi hz0 hz1 hz2 hzs hsz v n xs hs hown _ m c ys hx hsrc.1 hc h1 h63 hbytes (Nat.zero_le _) ?_
    intro v' w' hown' hg _ hat
    refine h v' w' hown' (Fr.of_grown hg) ?_
    intro k hk
    rcases hat with hat | hat
    · exact Or.inl (by rw [← hat]; exact hk)
    · rw [hat] at hk; exact Or.inr (by simpa using hk.symm)

/-- 'make([]T, n)' of one-cell elements. -/
theorem wpList_make_fr {P : Program} {w : World} {ops : Array Oper} {rest : List Oper} {o : Oper} {a : Act} {Q : Exit → Act → World → Prop}
    (hg : o.guard = none) (l c : Operand) (t e : TypeId) (z : Value) (bytes : Nat) (hop : o.op = Op.makeSlice t l c)
    (ht : P.underlying t = some (.slice e)) (hi : (P.info? e).map (fun i => (i.zero, i.size, i.bytes)) = some (some z, 1, bytes)) (hz : z.cells = #[z])
    (n : Nat) (hl : a.eval l = .int .i64 n) (hc : a.eval c = .int .i64 n) (b2 : bytes * n ≤ 281474976710656) (b3 : n ≤ maxLen)
    (hK : ∀ w', w'.ownsRow 0 e 1 (.slice (some ⟨w.heap.size, 0, none⟩) n n) n (List.replicate n z) → Fr [] w w' → wpList P ops Q rest (a.put o.dst (.slice (some ⟨w.heap.size, 0, none⟩) n n)) w') :
    wpList P ops Q (o :: rest) a w := by
  obtain ⟨i, hi, hz0, hz1, hz2⟩ := info_parts hi
  refine wpList_make_full w hg l c t hop 0 e i z 1 ht hi hz0 hz1 .i64 .i64 _ _ n hl hc rfl rfl (by rw [hz2]; exact b2) b3 (Nat.zero_le _) ?_
  intro w' h1 h2
  rw [hz, Nat.mul_one, toList_madeCells_one] at h1
  exact hK w' h1 (Fr.of_grown h2)

/-- a literal without elements owns an empty row -/
theorem own_empty (w : World) (e : TypeId) (B : Nat) (hB : w.heap.size = B) : (w.alloc (.cells #[] e)).ownsRow 0 e 1 (.slice (some ⟨B, 0, none⟩) 0 0) 0 [] := by
  subst hB
  exact World.ownsRow_made w #[] 0 (Nat.zero_le _) (Nat.zero_le _) (by simp)

/-- behind two new blocks and a call that changes none: where they lie, and what they hold -/
theorem two_boxes {w w1 : World} {a b : Obj} (hf : Fr [] ((w.alloc a).alloc b) w1) : w1.heap[w.heap.size]? = some a ∧ w1.heap[w.heap.size + 1]? = some b ∧ Fr [] w w1 :=
  ⟨hf.keep (by rw [Below.heap_alloc _ _ _ (by simp)]; exact new_block _ _) (by simp),
   hf.keep (by have := new_block (w.alloc a) b; simpa using this) (by simp),
   (((Fr.refl [] w).alloc _).alloc _).trans hf (by simp)⟩
theorem Fr.cell {S : List Nat} {w w' : World} (h : Fr S w w') {p : Addr} {v : Value} (hc : w.cell? p = some v) (hn : p.block ∉ S) : w'.cell? p = some v := by
  rw [← hc]
  exact World.cell?_of_block (h.block p.block (World.block_lt_of_cell? w p hc) hn)

/-- the same world but for its draws -/
structure Sim (X w : World) : Prop where
  heap : X.heap = w.heap
  os : X.os = w.os
  tape : X.tape = w.tape
  output : X.output = w.output
theorem Sim.fr {S : List Nat} {X w w' : World} (h : Sim X w) (hf : Fr S X w') : Fr S w w' :=
  ⟨hf.os.trans h.os, hf.tape.trans h.tape, hf.output.trans h.output, by rw [← h.heap]; exact hf.size, fun k hk hn => by rw [← h.heap] at hk ⊢; exact hf.block k hk hn⟩
theorem Sim.to {S : List Nat} {X w : World} (h : Sim X w) : Fr S w X :=
  ⟨h.os, h.tape, h.output, by rw [h.heap]; exact Nat.le_refl _, fun k hk hn => by rw [h.heap]⟩

/-- a goal that the walk shall not go on with by itself -/
def Stop (p : Prop) : Prop := p
theorem go_stop {p : Prop} (h : Stop p) : p := h

/-- a literal of one element -/
theorem own_one (w : World) (e : TypeId) (x : Value) (B : Nat) (hB : w.heap.size = B) : (w.alloc (.cells #[x] e)).ownsRow 0 e 1 (.slice (some ⟨B, 0, none⟩) 1 1) 1 [x] := by
  subst hB
  exact ⟨rfl, Or.inr ⟨_, 1, #[x], rfl, Nat.zero_le _, new_block _ _, Nat.le_refl _, by unfold maxLen; omega, rfl, rfl⟩⟩

/-- three new blocks, and then a call that changes old ones alone -/
theorem three_boxes {S : List Nat} {w w1 : World} {a b c : Obj} (hS : ∀ k ∈ S, k < w.heap.size) (hf : Fr S (((w.alloc a).alloc b).alloc c) w1) :
    w1.heap[w.heap.size]? = some a ∧ w1.heap[w.heap.size + 1]? = some b ∧ w1.heap[w.heap.size + 1 + 1]? = some c ∧ Fr S w w1 := by
  have hn : ∀ j, w.heap.size + j ∉ S := fun j h => by have := hS _ h; omega
  have h0 : (((w.alloc a).alloc b).alloc c).heap[w.heap.size]? = some a := by
    rw [Below.heap_alloc _ _ _ (by simp <;> omega), Below.heap_alloc _ _ _ (by simp)]; exact new_block _ _
  have h1 : (((w.alloc a).alloc b).alloc c).heap[w.heap.size + 1]? = some b := by
    rw [Below.heap_alloc _ _ _ (by simp)]; have := new_block (w.alloc a) b; simpa using this
  have h2 : (((w.alloc a).alloc b).alloc c).heap[w.heap.size + 2]? = some c := by
    have := new_block ((w.alloc a).alloc b) c; simpa using this
  exact ⟨hf.keep h0 (hn 0), hf.keep h1 (hn 1), hf.keep h2 (hn 2), ((((Fr.refl S w).alloc _).alloc _).alloc _).trans hf (fun x hx => Or.inl hx)⟩
theorem or_keep {a b c : Prop} (h : a ∨ b) (f : b → c) : a ∨ c := h.elim Or.inl (fun x => Or.inr (f x))
/-- a world that is written out, put behind what is wanted of it -/
theorem at_world {P : Program} {c : Code} {K : Exit → Act → World → Prop} {a : Act} {w : World} (R : World → Prop) (h : R w) (k : ∀ w', R w' → Code.wp P c K a w') : Code.wp P c K a w := k w h
end Go.Proofs.Ytmhiolhgofackaa
