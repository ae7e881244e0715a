/- impostlaw03.do at any deed; what deeds keep; the pool and the document's agree -/
import Derived.Test.YtphniphlflijeaaEpochDo0
import Derived.Test.YtphniphlflijeaaEpochDo1
namespace Go.Proofs.Ytphniphlflijeaa
open Go.RowKit
set_option linter.unusedVariables false
set_option linter.unusedSimpArgs false

def PA.deed (A : PA) (k t x : Int) : PA := if k = 1 then A.enter t else if k = 2 then A.exit t else if k = 3 then A.retire x else if k = 4 then A.advance else A.free
def XA.deed (X : XA) (k t x : Int) : XA := if k = 1 then X.enter t else if k = 2 then X.exit t else if k = 3 then X.retire x else if k = 4 then X.advance else X.free
def alike (A : PA) (X : XA) (k t : Int) : Bool :=
  if k = 1 then A.enterE t == X.enterE t else if k = 2 then A.exitE t == X.exitE t else if k = 3 then true else if k = 4 then A.ready == X.ready else decide (A.freed = X.freed)

theorem do_any (w : World) (p : Nat) {S V A X} (k t x : Int) (hp : Pool w p S A) (hr : RefS w V X) (hb : Fit A X) :
    Calls Try.prog 12 #[.pointer (some ⟨p, 0, none⟩), V, .agg #[.int .i64 k, .int .i64 t, .int .u64 x]] w (DoOut w p S (A.deed k t x) (X.deed k t x) (alike A X k t)) := by
  by_cases h1 : k = 1
  · subst h1; simpa [PA.deed, XA.deed, alike] using do_1 w p t x hp hr hb
  by_cases h2 : k = 2
  · subst h2; simpa [PA.deed, XA.deed, alike] using do_2 w p t x hp hr hb
  by_cases h3 : k = 3
  · subst h3; simpa [PA.deed, XA.deed, alike] using do_3 w p t x hp hr hb
  by_cases h4 : k = 4
  · subst h4; simpa [PA.deed, XA.deed, alike] using do_4 w p t x hp hr hb
  have e : A.deed k t x = A.free ∧ X.deed k t x = X.free ∧ alike A X k t = decide (A.freed = X.freed) := by simp [PA.deed, XA.deed, alike, h1, h2, h3, h4]
  rw [e.1, e.2.1, e.2.2]
  exact do_0 w p k t x ⟨h1, h2, h3, h4⟩ hp hr hb

/-- what deeds keep -/
structure OkA (A : PA) (N : Int) : Prop where
  th : A.th.length ≤ 8
  ep0 : 0 ≤ A.ep
  ep1 : A.ep ≤ N
  row : ∀ x ∈ A.row, 0 ≤ x.2 ∧ x.2 ≤ A.ep
  sorted : A.row.Pairwise (fun x y => x.2 ≤ y.2)
  len : A.row.length ≤ N
  cnt : A.cnt ≤ N
structure OkX (X : XA) (N : Int) : Prop where
  inn : X.inn.length ≤ 8
  ep0 : 0 ≤ X.ep
  ep1 : X.ep ≤ N
  row : ∀ x ∈ X.row, 0 ≤ x.2 ∧ x.2 ≤ X.ep
  len : X.row.length ≤ N
theorem OkA.ok {A N} (h : OkA A N) (hN : N ≤ 100000) : RowOk A := ⟨h.ep0, by have := h.ep1; omega, h.row, h.sorted, by have := h.len; omega, by have := h.cnt; omega⟩
theorem OkA.fit {A N X M} (h : OkA A N) (hx : OkX X M) (hN : N ≤ 100000) (hM : M ≤ 100000) : Fit A X :=
  ⟨h.th, h.ok hN, hx.inn, hx.ep0, by have := hx.ep1; omega, by have := hx.len; omega, fun x hx' => by have := hx.row x hx'; have := hx.ep1; omega⟩
theorem OkA.mono {A N M} (h : OkA A N) (hm : N ≤ M) : OkA A M := ⟨h.th, h.ep0, by have := h.ep1; omega, h.row, h.sorted, by have := h.len; omega, by have := h.cnt; omega⟩
theorem OkX.mono {A N M} (h : OkX A N) (hm : N ≤ M) : OkX A M := ⟨h.inn, h.ep0, by have := h.ep1; omega, h.row, by have := h.len; omega⟩
theorem OkA.enter {A N} (h : OkA A N) (t : Int) : OkA (A.enter t) N := by
  unfold PA.enter
  split
  · split
    · exact h
    · exact ⟨by simpa using h.th, h.ep0, h.ep1, h.row, h.sorted, h.len, h.cnt⟩
  · exact h
theorem OkA.exit {A N} (h : OkA A N) (t : Int) : OkA (A.exit t) N := by
  unfold PA.exit
  split
  · split
    · exact ⟨by simpa using h.th, h.ep0, h.ep1, h.row, h.sorted, h.len, h.cnt⟩
    · exact h
  · exact h
theorem OkA.retire {A N} (h : OkA A N) (x : Int) : OkA (A.retire x) (N + 1) := by
  refine ⟨h.th, h.ep0, by have := h.ep1; show A.ep ≤ N + 1; omega, ?_, ?_, ?_, ?_⟩
  · intro y hy
    simp only [PA.retire, List.mem_append, List.mem_singleton] at hy
    rcases hy with hy | rfl
    · exact h.row y hy
    · exact ⟨h.ep0, Int.le_refl _⟩
  · simp only [PA.retire]
    rw [List.pairwise_append]
    exact ⟨h.sorted, by simp, fun a ha b hb => by simp at hb; subst hb; exact (h.row a ha).2⟩
  · have := h.len; simp [PA.retire]; omega
  · have := h.cnt; simp [PA.retire]; omega
theorem OkA.advance {A N} (h : OkA A N) : OkA A.advance (N + 1) := by
  unfold PA.advance
  split
  · exact ⟨h.th, by have := h.ep0; show 0 ≤ A.ep + 1; omega, by have := h.ep1; show A.ep + 1 ≤ N + 1; omega, fun x hx => by have := h.row x hx; exact ⟨this.1, by show x.2 ≤ A.ep + 1; omega⟩, h.sorted, by have := h.len; show (A.row.length : Int) ≤ N + 1; omega, by have := h.cnt; show (A.cnt : Int) ≤ N + 1; omega⟩
  · exact h.mono (by omega)
theorem OkA.free {A N} (h : OkA A N) : OkA A.free N := by
  refine ⟨h.th, h.ep0, h.ep1, fun x hx => h.row x (List.mem_filter.1 hx).1, h.sorted.sublist List.filter_sublist, ?_, h.cnt⟩
  have := List.length_filter_le (fun x : Int × Int => !decide (x.2 + 2 ≤ A.ep)) A.row
  have := h.len
  show ((A.row.filter _).length : Int) ≤ N
  omega
theorem OkA.deed {A N} (h : OkA A N) (k t x : Int) : OkA (A.deed k t x) (N + 1) := by
  unfold PA.deed
  split
  · exact (h.enter t).mono (by omega)
  split
  · exact (h.exit t).mono (by omega)
  split
  · exact h.retire x
  split
  · exact h.advance
  · exact h.free.mono (by omega)
theorem OkX.deed {X N} (h : OkX X N) (k t x : Int) : OkX (X.deed k t x) (N + 1) := by
  have hm := h.mono (M := N + 1) (by omega)
  unfold XA.deed
  split
  · unfold XA.enter
    split
    · split
      · exact hm
      · exact ⟨by simpa using h.inn, hm.ep0, hm.ep1, hm.row, hm.len⟩
    · exact hm
  split
  · unfold XA.exit
    split
    · split
      · exact ⟨by simpa using h.inn, hm.ep0, hm.ep1, hm.row, hm.len⟩
      · exact hm
    · exact hm
  split
  · refine ⟨h.inn, h.ep0, hm.ep1, ?_, ?_⟩
    · intro y hy
      simp only [XA.retire, List.mem_append, List.mem_singleton] at hy
      rcases hy with hy | rfl
      · exact h.row y hy
      · exact ⟨h.ep0, Int.le_refl _⟩
    · have := h.len; simp [XA.retire]; omega
  split
  · unfold XA.advance
    split
    · exact ⟨h.inn, by have := h.ep0; show 0 ≤ X.ep + 1; omega, by have := h.ep1; show X.ep + 1 ≤ N + 1; omega, fun x hx => by have := h.row x hx; exact ⟨this.1, by show x.2 ≤ X.ep + 1; omega⟩, hm.len⟩
    · exact hm
  · refine ⟨h.inn, h.ep0, hm.ep1, fun x hx => h.row x (List.mem_filter.1 hx).1, ?_⟩
    have := List.length_filter_le (fun x : Int × Int => !decide (x.2 + 2 ≤ X.ep)) X.row
    have := h.len
    show ((X.row.filter _).length : Int) ≤ N + 1
    omega
theorem OkA.new (n : Nat) (hn : n ≤ 8) : OkA (PA.new n) 0 := ⟨by simp [PA.new]; omega, by simp [PA.new], by simp [PA.new], by simp [PA.new], by simp [PA.new], by simp [PA.new], by simp [PA.new]⟩
theorem OkX.new (n : Nat) (hn : n ≤ 8) : OkX (XA.new n) 0 := ⟨by simp [XA.new]; omega, by simp [XA.new], by simp [XA.new], by simp [XA.new], by simp [XA.new]⟩

/-- the pool, and the document's -/
def inOf (t : Bool × Int) : Int := if t.1 then t.2 else -1
structure Rel (A : PA) (X : XA) : Prop where
  inn : X.inn = A.th.map inOf
  ep : X.ep = A.ep
  row : X.row = A.row
  pos : ∀ t ∈ A.th, 0 ≤ t.2
  ep0 : 0 ≤ A.ep
theorem Rel.has {A X} (h : Rel A X) (t : Int) : X.has t = A.has t := by
  simp [XA.has, PA.has, h.inn]
theorem Rel.asks {A X} (h : Rel A X) {t : Int} (ht : A.has t = true) : X.since t = (if A.inside t then A.since t else -1) ∧ (0 ≤ X.since t ↔ A.inside t = true) := by
  have hb := of_decide_eq_true ht
  obtain ⟨q, rfl⟩ := Int.eq_ofNat_of_zero_le hb.1
  have hq : q < A.th.length := by omega
  obtain ⟨⟨b, s⟩, hat⟩ : ∃ x, A.th[q]? = some x := ⟨_, List.getElem?_eq_getElem hq⟩
  have hs := h.pos _ (List.mem_of_getElem? hat)
  simp only at hs
  have e1 : X.since q = inOf (b, s) := by
    unfold XA.since
    rw [h.inn, List.getD_eq_getElem?_getD, Int.toNat_natCast, List.getElem?_map, hat]; rfl
  have e2 : A.inside q = b ∧ A.since q = s := by simp [PA.inside, PA.since, List.getD_eq_getElem?_getD, hat]
  rw [e1, e2.1, e2.2]
  cases b <;> simp [inOf, hs]
theorem Rel.enter {A X} (h : Rel A X) (t : Int) : Rel (A.enter t) (X.enter t) ∧ A.enterE t = X.enterE t := by
  unfold PA.enter XA.enter PA.enterE XA.enterE
  rw [h.has]
  cases ht : A.has t with
  | false => exact ⟨by simpa using h, by simp⟩
  | true =>
    obtain ⟨_, h2⟩ := h.asks ht
    cases hi : A.inside t with
    | true => rw [if_pos (h2.2 hi)]; simpa [h2.2 hi] using h
    | false =>
      have hn : ¬ 0 ≤ X.since t := fun e => by rw [h2.1 e] at hi; cases hi
      simp only [if_true, if_neg hn, Bool.false_eq_true, if_false, and_true]
      refine ⟨?_, h.ep, h.row, ?_, h.ep0⟩
      · simp only [h.inn, List.map_set, h.ep]; rfl
      · intro y hy
        rcases List.mem_or_eq_of_mem_set hy with hy | rfl
        · exact h.pos y hy
        · exact h.ep0
theorem Rel.exit {A X} (h : Rel A X) (t : Int) : Rel (A.exit t) (X.exit t) ∧ A.exitE t = X.exitE t := by
  unfold PA.exit XA.exit PA.exitE XA.exitE
  rw [h.has]
  cases ht : A.has t with
  | false => exact ⟨by simpa using h, by simp⟩
  | true =>
    obtain ⟨h1, h2⟩ := h.asks ht
    cases hi : A.inside t with
    | false =>
      have hn : ¬ 0 ≤ X.since t := fun e => by rw [h2.1 e] at hi; cases hi
      simpa [hn] using h
    | true =>
      have hp := h2.2 hi
      simp only [if_true, if_pos hp, and_true]
      refine ⟨?_, h.ep, h.row, ?_, h.ep0⟩
      · simp only [h.inn, List.map_set]; rfl
      · intro y hy
        rcases List.mem_or_eq_of_mem_set hy with hy | rfl
        · exact h.pos y hy
        · have := hp; rw [h1, hi, if_pos rfl] at this; exact this
theorem Rel.ready {A X} (h : Rel A X) : A.ready = X.ready := by
  unfold PA.ready XA.ready
  rw [h.inn, h.ep, List.all_map]
  have hp := h.pos
  have he := h.ep0
  generalize A.th = l at hp
  induction l with
  | nil => rfl
  | cons y l ih =>
    simp only [List.all_cons]
    rw [ih (fun t ht => hp t (List.mem_cons_of_mem _ ht))]
    congr 1
    obtain ⟨b, s⟩ := y
    have := hp (b, s) (by simp)
    simp only at this
    have hs : ¬ s < 0 := by omega
    cases b <;> simp [inOf, hs]
theorem Rel.deed {A X} (h : Rel A X) (k t x : Int) : Rel (A.deed k t x) (X.deed k t x) ∧ alike A X k t = true := by
  unfold PA.deed XA.deed alike
  split
  · obtain ⟨h1, h2⟩ := h.enter t; exact ⟨h1, by rw [h2]; simp⟩
  split
  · obtain ⟨h1, h2⟩ := h.exit t; exact ⟨h1, by rw [h2]; simp⟩
  split
  · exact ⟨⟨h.inn, h.ep, by simp [PA.retire, XA.retire, h.row, h.ep], h.pos, h.ep0⟩, rfl⟩
  split
  · have hr := h.ready
    refine ⟨?_, by rw [hr]; simp⟩
    unfold PA.advance XA.advance
    rw [hr]
    split
    · exact ⟨h.inn, by simp [h.ep], h.row, h.pos, by have := h.ep0; show 0 ≤ A.ep + 1; omega⟩
    · exact h
  · refine ⟨⟨h.inn, h.ep, by simp [PA.free, XA.free, h.row, h.ep], h.pos, h.ep0⟩, ?_⟩
    simp [PA.freed, XA.freed, h.row, h.ep]
theorem Rel.new (n : Nat) : Rel (PA.new n) (XA.new n) :=
  ⟨by simp [PA.new, XA.new, inOf], rfl, rfl, by intro t ht; simp [PA.new] at ht; rw [ht.2]; simp, by simp [PA.new]⟩

/-! A pool of a law's own -/
def Own (w : World) (p : Nat) (S : List Nat) (A : PA) (w' : World) : Prop := Pool w' p S A ∧ Fr [] w w' ∧ ∀ k ∈ S, w.heap.size ≤ k
theorem Own.out {w w1 w2 : World} {p : Nat} {S : List Nat} {A A' : PA} (h : Own w p S A w1) (h2 : PoolOut w1 p S A' w2) : ∃ S', Own w p S' A' w2 := by
  obtain ⟨h0, h1, hS⟩ := h
  obtain ⟨S', k0, k1, k2⟩ := h2
  exact ⟨S', k0, h1.trans k1 (fun k hk => Or.inr (hS k hk)), fun k hk => by rcases k2 k hk with h | h; exact hS k h; have := h1.size; omega⟩
theorem Own.keep {w w1 w2 : World} {p : Nat} {S : List Nat} {A : PA} (h : Own w p S A w1) (hf : Fr [] w1 w2) : Own w p S A w2 := ⟨h.1.keep hf (by simp), h.2.1.trans hf (by simp), h.2.2⟩
theorem Own.boxes {w w1 w2 : World} {p : Nat} {S T : List Nat} {A : PA} (h : Own w p S A w1) (hf : Fr T w1 w2) (hT : ∀ k ∈ T, k ∉ S ∧ w.heap.size ≤ k) : Own w p S A w2 :=
  ⟨h.1.keep hf (fun k hk hm => (hT k hm).1 hk), h.2.1.trans hf (fun k hk => Or.inr (hT k hk).2), h.2.2⟩
theorem MadePool.own {w w1 w' : World} {A : PA} {e : Ending} (h : MadePool w1 A e w') (hf : Fr [] w w1) : ∃ p S, e = .returned (.pointer (some ⟨p, 0, none⟩)) ∧ Own w p S A w' := by
  obtain ⟨p, S, he, h1, h2, h3⟩ := h
  exact ⟨p, S, he, h1, hf.trans h2 (by simp), fun k hk => Nat.le_trans hf.size (h3 k hk)⟩
theorem FreedIs.own {w w1 w' : World} {p : Nat} {S : List Nat} {A : PA} {e : Ending} (h : FreedIs w1 p S A e w') (ho : Own w p S A w1) : ∃ s c, e = .returned (.slice s A.freed.length c) ∧ Lies w' 33 1 (.slice s A.freed.length c) A.freed.length (A.freed.map (Value.int .u64)) ∧ (∀ k, (Value.slice s A.freed.length c).ownBlock = some k → w1.heap.size ≤ k) ∧ Own w p S A.free w' := by
  obtain ⟨v, he, hl, hn, hp, hf⟩ := h
  obtain ⟨s, c, rfl, _⟩ := hl.form
  exact ⟨s, c, he, hl, hn, hp, ho.2.1.trans hf (fun k hk => Or.inr (ho.2.2 k hk)), ho.2.2⟩

/-! contracts over a pool of a law's own -/
section
variable {w w1 : World} {p : Nat} {S : List Nat} {A : PA} {N : Int}
theorem own_new (hf : Fr [] w w1) (n : Nat) (h1 : 1 ≤ n) (h8 : n ≤ 8) : Calls Try.prog 10 #[.int .i64 n] w1 fun e w' => ∃ p S, e = .returned (.pointer (some ⟨p, 0, none⟩)) ∧ Own w p S (PA.new n) w' :=
  (epoch_new w1 n h1 h8).mono fun e w' h => h.own hf
theorem own_enter (h : Own w p S A w1) (ho : OkA A N) (t : Int) : Calls Try.prog 17 #[.pointer (some ⟨p, 0, none⟩), .int .i64 t] w1 fun e w' => e = .returned (.int .i64 (A.enterE t)) ∧ ∃ S', Own w p S' (A.enter t) w' :=
  (epoch_enter w1 p t h.1 ho.th).mono fun e w' h' => ⟨h'.1, h.out h'.2⟩
theorem own_exit (h : Own w p S A w1) (ho : OkA A N) (t : Int) : Calls Try.prog 19 #[.pointer (some ⟨p, 0, none⟩), .int .i64 t] w1 fun e w' => e = .returned (.int .i64 (A.exitE t)) ∧ ∃ S', Own w p S' (A.exit t) w' :=
  (epoch_exit w1 p t h.1 ho.th).mono fun e w' h' => ⟨h'.1, h.out h'.2⟩
theorem own_retire (h : Own w p S A w1) (ho : OkA A N) (hN : N ≤ 100000) (x : Int) : Calls Try.prog 18 #[.pointer (some ⟨p, 0, none⟩), .int .u64 x] w1 fun e w' => e = .returned (.tuple #[]) ∧ ∃ S', Own w p S' (A.retire x) w' :=
  (epoch_retire w1 p x h.1 ho.ep0 (ho.ok hN).ep1 (ho.ok hN).len (ho.ok hN).cnt).mono fun e w' h' => ⟨h'.1, h.out h'.2⟩
theorem own_advance (h : Own w p S A w1) (ho : OkA A N) (hN : N ≤ 100000) : Calls Try.prog 20 #[.pointer (some ⟨p, 0, none⟩)] w1 fun e w' => e = .returned (.bool A.ready) ∧ ∃ S', Own w p S' A.advance w' :=
  (epoch_advance w1 p h.1 ho.th ho.ep0 (ho.ok hN).ep1).mono fun e w' h' => ⟨h'.1, h.out h'.2⟩
theorem own_free (h : Own w p S A w1) (ho : OkA A N) (hN : N ≤ 100000) : Calls Try.prog 16 #[.pointer (some ⟨p, 0, none⟩)] w1 fun e w' => ∃ s c, e = .returned (.slice s A.freed.length c) ∧ Lies w' 33 1 (.slice s A.freed.length c) A.freed.length (A.freed.map (Value.int .u64)) ∧ (∀ k, (Value.slice s A.freed.length c).ownBlock = some k → w1.heap.size ≤ k) ∧ Own w p S A.free w' :=
  (epoch_free w1 p h.1 (ho.ok hN)).mono fun e w' h' => h'.own h
theorem own_left (h : Own w p S A w1) (ho : OkA A N) (hN : N ≤ 100000) : Calls Try.prog 14 #[.pointer (some ⟨p, 0, none⟩)] w1 fun e w' => e = .returned (.int .i64 A.row.length) ∧ Fr [] w1 w' :=
  epoch_left w1 p h.1 (ho.ok hN)
theorem own_epoch (h : Own w p S A w1) : Calls Try.prog 13 #[.pointer (some ⟨p, 0, none⟩)] w1 fun e w' => e = .returned (.int .i64 A.ep) ∧ w1 = w' :=
  epoch_epoch w1 p h.1
end
end Go.Proofs.Ytphniphlflijeaa
