/- WHAT A THREAD THAT STAYS INSIDE KEEPS: plain facts of a pool -/
import Derived.Test.YtphniphlflijeaaEpochRan
namespace Go.Proofs.Ytphniphlflijeaa
open Go.RowKit
set_option linter.unusedVariables false
set_option linter.unusedSimpArgs false

/-- thread q is inside, of the epoch s, which is the epoch that there is, or the one below -/
def Keeps (A : PA) (q : Nat) (s : Int) : Prop := A.th[q]? = some (true, s) ∧ s ≤ A.ep ∧ A.ep ≤ s + 1
theorem th_has {A : PA} {q : Nat} (hq : q < A.th.length) : A.has q = true := by simp [PA.has, hq]
theorem Keeps.inside {A q s} (h : Keeps A q s) : A.inside q = true := by
  simp [PA.inside, List.getD_eq_getElem?_getD, h.1]
theorem set_at {l : List (Bool × Int)} {q : Nat} {t : Int} {v y : Bool × Int} (h : l[q]? = some v) (ht : 0 ≤ t) (hne : t ≠ q) : (l.set t.toNat y)[q]? = some v := by
  rw [List.getElem?_set, if_neg (by omega)]; exact h
theorem has_nonneg {A : PA} {t : Int} (h : A.has t = true) : 0 ≤ t := (of_decide_eq_true h).1
theorem Keeps.deed {A q s} (h : Keeps A q s) (k t x : Int) (hn : k ≠ 2 ∨ t ≠ q) : Keeps (A.deed k t x) q s := by
  unfold PA.deed
  split
  · unfold PA.enter
    split
    · rename_i ht
      split
      · exact h
      · rename_i hi
        refine ⟨set_at h.1 (has_nonneg ht) ?_, h.2.1, h.2.2⟩
        rintro rfl
        exact hi h.inside
    · exact h
  split
  · rename_i h2
    unfold PA.exit
    split
    · rename_i ht
      split
      · exact ⟨set_at h.1 (has_nonneg ht) (by rcases hn with h' | h'; exact absurd h2 h'; exact h'), h.2.1, h.2.2⟩
      · exact h
    · exact h
  split
  · exact h
  split
  · unfold PA.advance
    split
    · rename_i hr
      unfold PA.ready at hr
      rw [List.all_eq_true] at hr
      have := hr _ (List.mem_of_getElem? h.1)
      simp at this
      have := h.2
      refine ⟨h.1, ?_, ?_⟩
      · show s ≤ A.ep + 1; omega
      · show A.ep + 1 ≤ s + 1; omega
    · exact h
  · exact h
theorem exit_out {A : PA} {q : Nat} (hq : q < A.th.length) : (A.exit q).inside q = false ∧ (A.exit q).th.length = A.th.length ∧ (A.exit q).ep = A.ep := by
  unfold PA.exit
  rw [th_has hq, if_pos rfl]
  cases hi : A.inside q with
  | true => 
    rw [if_pos rfl]
    refine ⟨?_, by simp, rfl⟩
    simp [PA.inside, List.getD_eq_getElem?_getD, hq]
  | false => exact ⟨hi, rfl, rfl⟩
theorem Keeps.entered {A : PA} {q : Nat} (hq : q < A.th.length) (hi : A.inside q = false) : Keeps (A.enter q) q A.ep := by
  unfold PA.enter
  rw [th_has hq, if_pos rfl, hi, if_neg (by simp)]
  refine ⟨?_, Int.le_refl _, by show A.ep ≤ A.ep + 1; omega⟩
  simp [hq]
theorem Keeps.reentered {A : PA} {q : Nat} (hq : q < A.th.length) : Keeps ((A.exit q).enter q) q A.ep := by
  obtain ⟨h1, h2, h3⟩ := exit_out hq
  rw [← h3]
  exact Keeps.entered (by omega) h1
/-- Enter, whether it was inside or not -/
theorem Keeps.enter {A : PA} (hn : Near A) {q : Nat} (hq : q < A.th.length) : ∃ s, Keeps (A.enter q) q s ∧ (A.enter q).ep = A.ep ∧ (A.enter q).row = A.row := by
  cases hi : A.inside q with
  | false =>
    refine ⟨A.ep, Keeps.entered hq hi, ?_, ?_⟩ <;> (unfold PA.enter; rw [th_has hq, if_pos rfl, hi, if_neg (by simp)])
  | true =>
    have e : A.enter q = A := by unfold PA.enter; rw [th_has hq, if_pos rfl, hi, if_pos rfl]
    rw [e]
    obtain ⟨⟨b, s⟩, hat⟩ : ∃ x, A.th[q]? = some x := ⟨_, List.getElem?_eq_getElem hq⟩
    have hb : b = true := by simpa [PA.inside, List.getD_eq_getElem?_getD, hat] using hi
    subst hb
    have := hn _ (List.mem_of_getElem? hat) rfl
    exact ⟨s, ⟨hat, this.1, this.2⟩, rfl, rfl⟩

/-- what was retired since is there, and not below -/
structure Held (A : PA) (q : Nat) (s m : Int) : Prop where
  keeps : Keeps A q s
  low : ∀ y ∈ A.row, y.1 = m → s ≤ y.2
  there : ∃ y ∈ A.row, y.1 = m
theorem Held.deed {A q s m} (h : Held A q s m) (k t x : Int) (hn : k ≠ 2 ∨ t ≠ q) (hx : x ≠ m) : Held (A.deed k t x) q s m := by
  refine ⟨h.keeps.deed k t x hn, ?_, ?_⟩
  · unfold PA.deed
    split
    · unfold PA.enter; repeat' split
      all_goals exact h.low
    split
    · unfold PA.exit; repeat' split
      all_goals exact h.low
    split
    · intro y hy hm
      simp only [PA.retire, List.mem_append, List.mem_singleton] at hy
      rcases hy with hy | rfl
      · exact h.low y hy hm
      · exact absurd hm hx
    split
    · unfold PA.advance; split <;> exact h.low
    · intro y hy hm; exact h.low y (List.mem_filter.1 hy).1 hm
  · obtain ⟨y, hy, hm⟩ := h.there
    refine ⟨y, ?_, hm⟩
    unfold PA.deed
    split
    · unfold PA.enter; repeat' split
      all_goals exact hy
    split
    · unfold PA.exit; repeat' split
      all_goals exact hy
    split
    · simp [PA.retire, hy]
    split
    · unfold PA.advance; split <;> exact hy
    · refine List.mem_filter.2 ⟨hy, ?_⟩
      have := h.low y hy hm
      have := h.keeps.2.2
      simp; omega
theorem Held.freed {A q s m} (h : Held A q s m) : ∀ x ∈ A.freed, x ≠ m := by
  intro x hx
  unfold PA.freed at hx
  obtain ⟨y, hy, rfl⟩ := List.mem_map.1 hx
  obtain ⟨hy, hf⟩ := List.mem_filter.1 hy
  intro hm
  have := h.low y hy hm
  have := h.keeps.2.2
  simp at hf
  omega
theorem Held.start {A : PA} {q : Nat} {s m : Int} (h : Keeps A q s) (hm : ∀ y ∈ A.row, y.1 ≠ m) : Held (A.retire m) q s m := by
  refine ⟨h, ?_, ⟨(m, A.ep), by simp [PA.retire], rfl⟩⟩
  intro y hy he
  simp only [PA.retire, List.mem_append, List.mem_singleton] at hy
  rcases hy with hy | rfl
  · exact absurd he (hm y hy)
  · exact h.2.1
theorem Held.left {A q s m} (h : Held A q s m) : 1 ≤ A.row.length := by
  obtain ⟨y, hy, _⟩ := h.there
  exact List.length_pos_of_mem hy

theorem DoOut.own {w w1 w' : World} {p : Nat} {S : List Nat} {A A' : PA} {X : XA} {b : Bool} {e : Ending} (h : DoOut w1 p S A' X b e w') (ho : Own w p S A w1) : ∃ V' S', e = .returned (.tuple #[V', .bool b]) ∧ Own w p S' A' w' := by
  obtain ⟨V', S', he, hp, _, hf, hS⟩ := h
  refine ⟨V', S', he, hp, ho.2.1.trans hf (fun k hk => Or.inr (ho.2.2 k hk)), fun k hk => ?_⟩
  rcases hS k hk with h | h
  · exact ho.2.2 k h
  · have := ho.2.1.size; omega
/-- a deed against a document's pool that is new -/
theorem own_do {w w1 W : World} {p : Nat} {S : List Nat} {A : PA} {V : Value} {N : Int} (ho : Own w p S A w1) (hA : OkA A N) (hN : N ≤ 100000) (hr : RefS W V (XA.new 4)) (hW : Fr [] w1 W) (k t x : Int) :
    Calls Try.prog 12 #[.pointer (some ⟨p, 0, none⟩), V, .agg #[.int .i64 k, .int .i64 t, .int .u64 x]] W fun e w' => ∃ V' b S', e = .returned (.tuple #[V', .bool b]) ∧ Own w p S' (A.deed k t x) w' ∧ Fr S W w' :=
  (do_any W p k t x (ho.1.keep hW (by simp)) hr (hA.fit (OkX.new 4 (by decide)) hN (by decide))).mono fun e w' h => by
    have hf : Fr S W w' := by obtain ⟨_, _, _, _, _, hf, _⟩ := h; exact hf
    obtain ⟨V', S', he, h⟩ := h.own (ho.keep hW)
    exact ⟨V', _, S', he, h, hf⟩
end Go.Proofs.Ytphniphlflijeaa
