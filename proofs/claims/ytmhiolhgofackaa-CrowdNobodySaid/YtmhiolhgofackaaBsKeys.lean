/- PACKAGE bst: Keys (written by bst_keys.py) -/
import Derived.Test.YtmhiolhgofackaaBsOp
namespace Go.Proofs.Ytmhiolhgofackaa
open Go.RowKit
set_option linter.unusedVariables false
set_option linter.unusedSimpArgs false

theorem st_slice : Try.prog.underlying 77 = some (.slice 9) := Try.underlying77
theorem st_info : (Try.prog.info? 9).map (fun i => (i.zero, i.size, i.bytes)) = some (some (.string ⟨#[]⟩), 1, 16) := by kernel_rfl
abbrev strs (l : List ByteArray) : List Value := l.map Value.string
def Strs (w : World) (v : Value) (l : List ByteArray) : Prop := w.ownsRow 0 9 1 v l.length (strs l)
theorem Strs.form {w : World} {v : Value} {l : List ByteArray} (h : Strs w v l) : ∃ s c, v = .slice s l.length c := by
  rcases ownsRow_form h with ⟨hv, hn⟩ | ⟨g, c, hv, _, _⟩
  · exact ⟨none, 0, by rw [hv, hn]⟩
  · exact ⟨_, c, hv⟩
theorem Strs.ty {w : World} {v : Value} {l : List ByteArray} (h : Strs w v l) : ∀ k, v.ownBlock = some k → ∃ cur, w.heap[k]? = some (.cells cur 9 (0, 0)) := by
  intro k hk
  rcases h.2 with ⟨rfl, _⟩ | ⟨g, cap, cur, rfl, _, hh, _⟩
  · cases hk
  · cases hk; exact ⟨cur, hh⟩
theorem Strs.keep {w w' : World} {v : Value} {l : List ByteArray} {S : List Nat} (h : Strs w v l) (hf : Fr S w w') (hn : ∀ k, v.ownBlock = some k → k ∉ S) : Strs w' v l := ownsRow_fr hf h hn
theorem Strs.nil (w : World) : Strs w (.slice none 0 0) [] := ⟨rfl, Or.inl ⟨rfl, rfl⟩⟩
/-- rows of strings that are written to -/
def StrS (w : World) (S : List Nat) : Prop := ∀ k ∈ S, ∃ cur, w.heap[k]? = some (.cells cur 9 (0, 0))
theorem Strs.strS {w : World} {v : Value} {l : List ByteArray} (h : Strs w v l) : StrS w v.ownBlock.toList := fun k hk => h.ty k (by simpa using hk)
theorem TreeAt.strs {w w' : World} {A : TA} {t : Tr} {S : List Nat} (h : TreeAt w A t) (hf : Fr S w w') (hS : StrS w S) : TreeAt w' A t := by
  have hn : ∀ k ∈ A.foot, k ∉ S := fun k hk hm => by
    obtain ⟨cur, hc⟩ := hS k hm
    have := h.ty k hk _ _ _ hc
    revert this; decide
  have hne : ∀ {b : Nat} {c : Array Value} {T : TypeId} {f : Nat × Nat}, w.heap[b]? = some (.cells c T f) → T ≠ 9 → b ∉ S := fun hb hT hm => by
    obtain ⟨cur, hc⟩ := hS _ hm
    rw [hb] at hc; simp only [Option.some.injEq, Obj.cells.injEq] at hc
    exact hT hc.2.1
  refine ⟨⟨hf.keep h.blk (hn _ A.foot_in.1), h.mem.keep hf (hn _ A.foot_in.2.2.1) (fun k hk => hn _ (A.foot_in.2.2.2.1 k hk)), ownsRow_fr hf h.row (fun k hk => hn _ (A.foot_in.2.2.2.2 k hk)), h.nlen, fun p b hp => ?_, h.map.keep hf (hn _ A.foot_in.2.1), h.wlen, fun i b hb => ?_⟩, h.lo, h.top⟩
  · have := h.nods p b hp
    exact hf.keep this (hne this (by decide))
  · have := h.wks i b hb
    exact hf.keep this (hne this (by decide))
theorem Fr.strS {w w' : World} {S T : List Nat} (h : StrS w S) (hf : Fr T w w') (hT : ∀ k ∈ S, k ∉ T) : StrS w' S := fun k hk => by
  obtain ⟨cur, hc⟩ := h k hk
  exact ⟨cur, hf.keep hc (hT k hk)⟩
/-- the keys, from left to right -/
def keysT (t : Tr) : PT → List ByteArray
  | .leaf p => if (t.nd p).fin then [] else [(t.nd p).key]
  | .node _ l r => keysT t l ++ keysT t r
def KeysPost (w : World) (A : TA) (t : Tr) (lv : Value) (xs : List ByteArray) (e : Ending) (w' : World) : Prop :=
  ∃ v, e = .returned v ∧ Strs w' v xs ∧ TreeAt w' A t ∧ Fr lv.ownBlock.toList w w' ∧ ∀ k, v.ownBlock = some k → lv.ownBlock = some k ∨ w.heap.size ≤ k
theorem inOk_nd {t : Tr} {p : Nat} (h : InOk t p) (hl : t.ns.length ≤ 65536) : NdOk t p := h.nd hl
theorem br_two {w : World} {b0 b1 : Br} {W : World} (h : W = w.alloc (.cells #[.int .i64 b0.cell, .int .u64 b0.first, .int .i64 b1.cell, .int .u64 b1.first] 105)) : W.heap[w.heap.size]? = some (.cells #[.int .i64 b0.cell, .int .u64 b0.first, .int .i64 b1.cell, .int .u64 b1.first] 105 (0, 0)) := by rw [h]; exact new_block w _
def accK (t : Tr) (xs : List ByteArray) (l r : PT) : Nat → List ByteArray
  | 0 => xs
  | 1 => xs ++ keysT t l
  | _ => xs ++ keysT t l ++ keysT t r
/-- one round's -/
structure RdK (w wr : World) (A : TA) (t : Tr) (lv0 lv : Value) (xs : List ByteArray) (B : Nat) (b0 b1 : Br) : Prop where
  tree : TreeAt wr A t
  row : Strs wr lv xs
  fr : Fr lv0.ownBlock.toList w wr
  own : ∀ k, lv.ownBlock = some k → lv0.ownBlock = some k ∨ w.heap.size ≤ k
  blk : wr.heap[B]? = some (.cells #[.int .i64 b0.cell, .int .u64 b0.first, .int .i64 b1.cell, .int .u64 b1.first] 105 (0, 0))
theorem RdK.next {w wr w' W : World} {A : TA} {t : Tr} {lv0 lv : Value} {xs ys : List ByteArray} {B : Nat} {b0 b1 : Br} {e : Ending} (h : RdK w wr A t lv0 lv xs B b0 b1) (hW : Fr [] wr W) (hp : KeysPost W A t lv ys e w') : ∃ v, e = .returned v ∧ Hid (RdK w w' A t lv0 v ys B b0 b1) ∧ (∀ (b : Nat) (c : Array Value) (T : TypeId) (f : Nat × Nat), W.heap[b]? = some (Obj.cells c T f) → T ≠ 9 → w'.heap[b]? = some (Obj.cells c T f)) ∧ ∃ s n c, v = .slice s n c := by
  obtain ⟨v, rfl, k1, k2, k3, k4⟩ := hp
  have hWr : Strs W lv xs := h.row.keep hW (by simp)
  refine ⟨v, rfl, Lib.hid ⟨k2, k1, ?_, fun k hk => ?_, ?_⟩, fun b c T f hb hT => k3.keep hb (fun hm => ?_), let ⟨s, c, h⟩ := k1.form; ⟨s, _, c, h⟩⟩
  · refine (h.fr.trans (T := []) hW (by simp)).trans k3 (fun x hx => ?_)
    rcases h.own x (by simpa using hx) with h1 | h1
    · exact Or.inl (by simpa using h1)
    · exact Or.inr h1
  · rcases k4 k hk with h1 | h1
    · exact h.own k h1
    · exact Or.inr (Nat.le_trans h.fr.size (Nat.le_trans hW.size h1))
  · refine k3.keep (hW.keep h.blk (by simp)) (fun hm => ?_)
    obtain ⟨cur, hc⟩ := hWr.strS _ hm
    rw [hW.keep h.blk (by simp)] at hc; simp only [Option.some.injEq, Obj.cells.injEq] at hc
    exact absurd hc.2.1 (by decide)
  · obtain ⟨cur, hc⟩ := hWr.strS _ hm
    rw [hb] at hc; simp only [Option.some.injEq, Obj.cells.injEq] at hc
    exact hT hc.2.1
theorem TreeAt.rowc {W : World} {A : TA} {t : Tr} {g c P : Nat} (h : TreeAt W A t) (hav : A.av = .slice (some ⟨g, 0, none⟩) t.ns.length c) (hp : P < t.ns.length) : W.cell? ⟨A.tb, 1, none⟩ = some (.slice (some ⟨g, 0, none⟩) t.ns.length c) ∧ W.cell? ⟨g, P, none⟩ = some (A.np P) := by
  obtain ⟨_, q1, _⟩ := tree_cells h.toTreeB
  obtain ⟨g', c', hav', _, hk, _⟩ := h.slice
  rw [hav] at hav' q1
  cases hav'
  exact ⟨q1, hk P hp⟩
theorem keysT_len (t : Tr) : ∀ T : PT, (keysT t T).length ≤ T.inners.length + 1
  | .leaf p => by unfold keysT; split <;> simp [PT.inners]
  | .node p l r => by
    have h1 := keysT_len t l
    have h2 := keysT_len t r
    simp [keysT, PT.inners]; omega
def KeysQ (w : World) (A : TA) (t : Tr) (L : PT) (e : Ending) (w' : World) : Prop :=
  ∃ v, e = .returned v ∧ Hid (Strs w' v (keysT t L)) ∧ TreeAt w' A t ∧ Fr [] w w' ∧ (∀ k, v.ownBlock = some k → w.heap.size ≤ k) ∧ ∃ s c, v = .slice s (keysT t L).length c
end Go.Proofs.Ytmhiolhgofackaa
