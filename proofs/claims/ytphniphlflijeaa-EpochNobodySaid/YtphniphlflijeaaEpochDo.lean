/- impostlaw03.do: what a deed of both leaves -/
import Derived.Test.YtphniphlflijeaaEpochNew
import Derived.Test.YtphniphlflijeaaEpochFreed
import Derived.Test.YtphniphlflijeaaEpochRefFree
namespace Go.Proofs.Ytphniphlflijeaa
open Go.RowKit
set_option linter.unusedVariables false
set_option linter.unusedSimpArgs false

/-- a document's pool has no block of a pool's -/
theorem RefS.far {w : World} {V : Value} {X : XA} {p : Nat} {S : List Nat} {A : PA} (h : RefS w V X) (hp : Pool w p S A) : ∀ j ∈ blks V, j ∉ S := by
  obtain ⟨iv, rv, rfl, h⟩ := h
  intro j hj
  rcases (blks_refAgg _ _ _ j).1 hj with hj | hj
  · obtain ⟨cur, hc⟩ := lies_tag h.ins hj
    exact hp.other hc (by decide)
  · obtain ⟨cur, hc⟩ := lies_tag h.row hj
    exact hp.other hc (by decide)
theorem RefS.other {w : World} {V : Value} {X : XA} (h : RefS w V X) {k : Nat} {c : Array Value} {t : TypeId} {f : Nat × Nat} (hk : w.heap[k]? = some (.cells c t f)) (ht : ¬ (t = 3 ∨ t = 64)) : k ∉ blks V := by
  obtain ⟨iv, rv, rfl, h⟩ := h
  intro hj
  rcases (blks_refAgg _ _ _ k).1 hj with hj | hj
  · obtain ⟨cur, hc⟩ := lies_tag h.ins hj
    rw [hk] at hc; simp at hc; exact ht (Or.inl hc.2.1)
  · obtain ⟨cur, hc⟩ := lies_tag h.row hj
    rw [hk] at hc; simp at hc; exact ht (Or.inr hc.2.1)
theorem RefS.lt {w : World} {V : Value} {X : XA} (h : RefS w V X) : ∀ j ∈ blks V, j < w.heap.size := by
  obtain ⟨iv, rv, rfl, h⟩ := h
  intro j hj
  rcases (blks_refAgg _ _ _ j).1 hj with hj | hj
  · exact h.ins.lt j hj
  · exact h.row.lt j hj

/-- numbers that both may have -/
structure Fit (A : PA) (X : XA) : Prop where
  th : A.th.length ≤ 8
  row : RowOk A
  inn : X.inn.length ≤ 8
  ep0 : 0 ≤ X.ep
  ep1 : X.ep ≤ 100000
  rlen : X.row.length ≤ 100000
  rrow : ∀ x ∈ X.row, 0 ≤ x.2 ∧ x.2 ≤ 100000

/-- what a deed of both leaves -/
def DoOut (w : World) (p : Nat) (S : List Nat) (A : PA) (X : XA) (b : Bool) (e : Ending) (w' : World) : Prop :=
  ∃ V' S', e = .returned (.tuple #[V', .bool b]) ∧ Pool w' p S' A ∧ RefS w' V' X ∧ Fr S w w' ∧ ∀ k ∈ S', k ∈ S ∨ w.heap.size ≤ k

/-- the stores into the answer -/
theorem do_end {w w2 : World} {p : Nat} {S S1 : List Nat} {A : PA} {X : XA} {V : Value} {c : Array Value} {B : Nat} (hp : Pool w2 p S1 A) (hr : RefS w2 V X) (hC : w2.heap[B]? = some (.cells c 29 (0, 0))) (hf : Fr S w w2)
    (hS : ∀ k ∈ S1, k ∈ S ∨ w.heap.size ≤ k) (hB : w.heap.size ≤ B) :
    ∀ (b : Bool) (o : Obj) u0 u1 u2, DoOut w p S A X b (.returned (.tuple #[V, .bool b])) (((((w2.setCell ⟨B, 0, none⟩ u0).setCell ⟨B, 1, none⟩ u1).setCell ⟨B, 2, none⟩ u2)).alloc o) := by
  intro b o u0 u1 u2
  have hx : Fr [B] w2 ((((w2.setCell ⟨B, 0, none⟩ u0).setCell ⟨B, 1, none⟩ u1).setCell ⟨B, 2, none⟩ u2).alloc o) := ((((Fr.refl _ w2).setCell (Or.inl (by simp)) u0).setCell (Or.inl (by simp)) u1).setCell (Or.inl (by simp)) u2).alloc o
  have h1 : B ∉ S1 := hp.other hC (by decide)
  have h2 : B ∉ blks V := hr.other hC (by decide)
  exact ⟨V, S1, rfl, hp.keep hx (by intro k hk; simp; intro e; subst e; exact h1 hk), hr.keep hx (by intro k hk; simp; intro e; subst e; exact h2 hk), hf.trans hx (by intro k hk; simp at hk; subst hk; exact Or.inr hB), hS⟩
theorem do_end0 {w w2 : World} {p : Nat} {S S1 : List Nat} {A : PA} {X : XA} {V : Value} {c : Array Value} {B : Nat} (hp : Pool w2 p S1 A) (hr : RefS w2 V X) (hC : w2.heap[B]? = some (.cells c 29 (0, 0))) (hf : Fr S w w2)
    (hS : ∀ k ∈ S1, k ∈ S ∨ w.heap.size ≤ k) (hB : w.heap.size ≤ B) :
    ∀ (b : Bool) u0 u1 u2, DoOut w p S A X b (.returned (.tuple #[V, .bool b])) (((w2.setCell ⟨B, 0, none⟩ u0).setCell ⟨B, 1, none⟩ u1).setCell ⟨B, 2, none⟩ u2) := by
  intro b u0 u1 u2
  have hx : Fr [B] w2 (((w2.setCell ⟨B, 0, none⟩ u0).setCell ⟨B, 1, none⟩ u1).setCell ⟨B, 2, none⟩ u2) := (((Fr.refl _ w2).setCell (Or.inl (by simp)) u0).setCell (Or.inl (by simp)) u1).setCell (Or.inl (by simp)) u2
  have h1 : B ∉ S1 := hp.other hC (by decide)
  have h2 : B ∉ blks V := hr.other hC (by decide)
  exact ⟨V, S1, rfl, hp.keep hx (by intro k hk; simp; intro e; subst e; exact h1 hk), hr.keep hx (by intro k hk; simp; intro e; subst e; exact h2 hk), hf.trans hx (by intro k hk; simp at hk; subst hk; exact Or.inr hB), hS⟩
end Go.Proofs.Ytphniphlflijeaa
