/- THREADS AND THEIR CALLS, PLAINLY: who has which call, the clock, what is noted. No memory here. -/
import Derived.Test.YtmhiolhgofackaaOr
namespace Go.Proofs.Ytmhiolhgofackaa
set_option linter.unusedVariables false
set_option linter.unusedSimpArgs false

/-- a crowd: each thread's call (where it is noted), the clock, the notes -/
structure Cro where
  sl : List (Option Nat)
  now : Nat
  cas : List Ca
def Cro.new (n : Nat) : Cro := ⟨List.replicate n none, 0, []⟩
def Cro.begin (c : Cro) (t : Nat) (kind : Int) (key : ByteArray) : Cro := ⟨c.sl.set t (some c.cas.length), c.now + 1, c.cas ++ [⟨kind, key, false, c.now, -1⟩]⟩
/-- a call that is noted steps: it may be done then -/
def Cro.pick (c : Cro) (t i : Nat) (x : Ca) (b ok : Bool) : Cro := ⟨if b then c.sl.set t none else c.sl, c.now + 1, c.cas.set i (if b then { x with ok := ok, ret := c.now } else x)⟩
structure CroOk (c : Cro) : Prop where
  has : ∀ (t i : Nat), c.sl[t]? = some (some i) → ∃ x, c.cas[i]? = some x ∧ x.ret < 0
  one : ∀ (t u i : Nat), c.sl[t]? = some (some i) → c.sl[u]? = some (some i) → t = u
  open_ : ∀ (i : Nat) (x : Ca), c.cas[i]? = some x → x.ret < 0 → ∃ t : Nat, c.sl[t]? = some (some i)
  inv : ∀ (i : Nat) (x : Ca), c.cas[i]? = some x → 0 ≤ x.inv ∧ x.inv < c.now
  ret : ∀ (i : Nat) (x : Ca), c.cas[i]? = some x → 0 ≤ x.ret → x.inv < x.ret ∧ x.ret < c.now
  rise : ∀ (i j : Nat) (x y : Ca), i < j → c.cas[i]? = some x → c.cas[j]? = some y → x.inv < y.inv
theorem get_set {α : Type} {l : List α} {t u : Nat} {a b : α} (h : (l.set t a)[u]? = some b) : (u = t ∧ b = a ∧ t < l.length) ∨ (u ≠ t ∧ l[u]? = some b) := by
  by_cases e : t = u
  · subst e
    by_cases hl : t < l.length
    · rw [List.getElem?_set_self hl] at h
      exact Or.inl ⟨rfl, (Option.some.inj h).symm, hl⟩
    · rw [List.getElem?_eq_none (by simp; omega)] at h; cases h
  · rw [List.getElem?_set_ne e] at h
    exact Or.inr ⟨fun q => e q.symm, h⟩
theorem get_snoc {α : Type} {l : List α} {u : Nat} {a b : α} (h : (l ++ [a])[u]? = some b) : (u = l.length ∧ b = a) ∨ (u < l.length ∧ l[u]? = some b) := by
  by_cases hl : u < l.length
  · rw [List.getElem?_append_left hl] at h; exact Or.inr ⟨hl, h⟩
  · have hu := (List.getElem?_eq_some_iff.1 h).1
    rw [List.length_append, List.length_singleton] at hu
    have e : u = l.length := by omega
    subst e
    simp at h
    exact Or.inl ⟨rfl, h.symm⟩
theorem get_lt {α : Type} {l : List α} {u : Nat} {b : α} (h : l[u]? = some b) : u < l.length := (List.getElem?_eq_some_iff.1 h).1
theorem CroOk.new (n : Nat) : CroOk (Cro.new n) := by
  have hn : ∀ (t i : Nat), (Cro.new n).sl[t]? = some (some i) → False := fun t i h => by
    have := List.mem_of_getElem? h
    unfold Cro.new at this
    have := List.eq_of_mem_replicate this
    cases this
  exact ⟨fun t i h => (hn t i h).elim, fun t u i h => (hn t i h).elim, fun i x h => by simp [Cro.new] at h, fun i x h => by simp [Cro.new] at h, fun i x h => by simp [Cro.new] at h, fun i j x y _ h => by simp [Cro.new] at h⟩
theorem CroOk.begin {c : Cro} (h : CroOk c) {t : Nat} (ht : c.sl[t]? = some none) (kind : Int) (key : ByteArray) : CroOk (c.begin t kind key) := by
  have htl := get_lt ht
  have hlt : ∀ (u i : Nat), c.sl[u]? = some (some i) → i < c.cas.length := fun u i hu => by
    obtain ⟨x, hx, _⟩ := h.has u i hu
    exact get_lt hx
  refine ⟨fun u i hu => ?_, fun u v i hu hv => ?_, fun i x hx hr => ?_, fun i x hx => ?_, fun i x hx hr => ?_, fun i j x y hij hx hy => ?_⟩
  · rcases get_set hu with ⟨_, e, _⟩ | ⟨_, hu⟩
    · simp only [Option.some.injEq] at e
      subst e
      exact ⟨⟨kind, key, false, c.now, -1⟩, by simp [Cro.begin], by show (-1 : Int) < 0; omega⟩
    · obtain ⟨x, hx, hr⟩ := h.has u i hu
      exact ⟨x, by show (c.cas ++ _)[i]? = _; rw [List.getElem?_append_left (get_lt hx)]; exact hx, hr⟩
  · rcases get_set hu with ⟨e1, e2, _⟩ | ⟨e1, hu⟩
    · rcases get_set hv with ⟨e3, _, _⟩ | ⟨_, hv⟩
      · omega
      · simp only [Option.some.injEq] at e2
        have := hlt v i hv
        omega
    · rcases get_set hv with ⟨_, e2, _⟩ | ⟨_, hv⟩
      · simp only [Option.some.injEq] at e2
        have := hlt u i hu
        omega
      · exact h.one u v i hu hv
  · rcases get_snoc hx with ⟨e, _⟩ | ⟨hi, hx⟩
    · subst e
      exact ⟨t, by show (c.sl.set t _)[t]? = _; rw [List.getElem?_set_self htl]⟩
    · obtain ⟨u, hu⟩ := h.open_ i x hx hr
      refine ⟨u, ?_⟩
      have : t ≠ u := fun e => by subst e; rw [ht] at hu; cases hu
      show (c.sl.set t _)[u]? = _
      rw [List.getElem?_set_ne this]; exact hu
  · show 0 ≤ x.inv ∧ x.inv < ((c.now + 1 : Nat) : Int)
    rcases get_snoc hx with ⟨_, rfl⟩ | ⟨_, hx⟩
    · exact ⟨by show (0 : Int) ≤ (c.now : Int); omega, by show (c.now : Int) < _; omega⟩
    · have := h.inv i x hx
      omega
  · show x.inv < x.ret ∧ x.ret < ((c.now + 1 : Nat) : Int)
    rcases get_snoc hx with ⟨_, rfl⟩ | ⟨_, hx⟩
    · exact absurd hr (by show ¬ (0 : Int) ≤ -1; omega)
    · have := h.ret i x hx hr
      omega
  · rcases get_snoc hx with ⟨e, rfl⟩ | ⟨hi, hx⟩
    · have := get_lt hy
      simp only [Cro.begin, List.length_append, List.length_singleton] at this
      omega
    · rcases get_snoc hy with ⟨e, rfl⟩ | ⟨hj, hy⟩
      · exact (h.inv i x hx).2
      · exact h.rise i j x y hij hx hy
theorem CroOk.pick {c : Cro} (h : CroOk c) {t i : Nat} {x : Ca} (ht : c.sl[t]? = some (some i)) (hx : c.cas[i]? = some x) (b ok : Bool) : CroOk (c.pick t i x b ok) := by
  have hil := get_lt hx
  have hxr : x.ret < 0 := by
    obtain ⟨y, hy, hr⟩ := h.has t i ht
    rw [hx] at hy; cases hy; exact hr
  cases b with
  | false =>
    have e : c.pick t i x false ok = ⟨c.sl, c.now + 1, c.cas⟩ := by
      unfold Cro.pick
      simp only [Bool.false_eq_true, if_false, Cro.mk.injEq, true_and]
      apply List.ext_getElem?
      intro j
      by_cases hj : i = j
      · subst hj; rw [List.getElem?_set_self hil]; exact hx.symm
      · rw [List.getElem?_set_ne hj]
    rw [e]
    exact ⟨h.has, h.one, h.open_, fun i x hx => ⟨(h.inv i x hx).1, by have := (h.inv i x hx).2; show x.inv < ((c.now + 1 : Nat) : Int); omega⟩, fun i x hx hr => ⟨(h.ret i x hx hr).1, by have := (h.ret i x hx hr).2; show x.ret < ((c.now + 1 : Nat) : Int); omega⟩, h.rise⟩
  | true =>
    have hinv := h.inv i x hx
    refine ⟨fun u j hu => ?_, fun u v j hu hv => ?_, fun j y hy hr => ?_, fun j y hy => ?_, fun j y hy hr => ?_, fun j k y z hjk hy hz => ?_⟩
    · rcases get_set hu with ⟨_, e, _⟩ | ⟨hne, hu⟩
      · cases e
      · obtain ⟨y, hy, hr⟩ := h.has u j hu
        have : i ≠ j := fun e => by subst e; exact hne (h.one u t i hu ht)
        exact ⟨y, by show (c.cas.set i _)[j]? = _; rw [List.getElem?_set_ne this]; exact hy, hr⟩
    · rcases get_set hu with ⟨_, e, _⟩ | ⟨_, hu⟩
      · cases e
      · rcases get_set hv with ⟨_, e, _⟩ | ⟨_, hv⟩
        · cases e
        · exact h.one u v j hu hv
    · rcases get_set hy with ⟨_, e, _⟩ | ⟨hne, hy⟩
      · rw [e] at hr
        exact absurd hr (by show ¬ (c.now : Int) < 0; omega)
      · obtain ⟨u, hu⟩ := h.open_ j y hy hr
        refine ⟨u, ?_⟩
        have : t ≠ u := fun e => by subst e; rw [ht] at hu; cases hu; exact hne rfl
        show (c.sl.set t none)[u]? = _
        rw [List.getElem?_set_ne this]; exact hu
    · show 0 ≤ y.inv ∧ y.inv < ((c.now + 1 : Nat) : Int)
      rcases get_set hy with ⟨_, e, _⟩ | ⟨_, hy⟩
      · rw [e]
        exact ⟨hinv.1, by show x.inv < _; omega⟩
      · have := h.inv j y hy
        omega
    · show y.inv < y.ret ∧ y.ret < ((c.now + 1 : Nat) : Int)
      rcases get_set hy with ⟨_, e, _⟩ | ⟨_, hy⟩
      · rw [e]
        exact ⟨by show x.inv < (c.now : Int); omega, by show (c.now : Int) < _; omega⟩
      · have := h.ret j y hy hr
        omega
    · have key : ∀ (j : Nat) (y : Ca), (c.cas.set i { x with ok := ok, ret := c.now })[j]? = some y → ∃ y', c.cas[j]? = some y' ∧ y'.inv = y.inv := fun j y hy => by
        rcases get_set hy with ⟨e1, e2, _⟩ | ⟨_, hy⟩
        · subst e1
          exact ⟨x, hx, by rw [e2]⟩
        · exact ⟨y, hy, rfl⟩
      obtain ⟨y', hy', e1⟩ := key j y hy
      obtain ⟨z', hz', e2⟩ := key k z hz
      rw [← e1, ← e2]
      exact h.rise j k y' z' hjk hy' hz'
/-- no call is ahead of itself -/
theorem CroOk.self {c : Cro} (h : CroOk c) {x : Ca} (hx : x ∈ c.cas) : ahead x x = false := by
  obtain ⟨i, hi⟩ := List.mem_iff_getElem?.1 hx
  unfold ahead
  cases hr : decide (0 ≤ x.ret) with
  | false => rfl
  | true =>
    have := h.ret i x hi (of_decide_eq_true hr)
    simp only [Bool.true_and, decide_eq_false_iff_not]
    omega
/-- those of one key, twelve at most, fit as the document says it -/
theorem CroOk.fits {c : Cro} (h : CroOk c) {first : List ByteArray} {k : ByteArray} (hl : (ofKey k c.cas).length ≤ 12) (hf : Fit (ofKey k c.cas) (inS first)) : fitsB first (ofKey k c.cas) = true :=
  fitsB_true.2 ⟨hl, fun x hx => h.self (mem_ofKey.1 hx).1, hf⟩
/-! how many are open -/
def isOpen (x : Ca) : Bool := decide (x.ret < 0)
/-- where the open ones are -/
def opens : List Ca → Nat → List Nat
  | [], _ => []
  | x :: r, n => if isOpen x then n :: opens r (n + 1) else opens r (n + 1)
theorem opens_len : ∀ (l : List Ca) (n : Nat), (opens l n).length = (l.filter isOpen).length
  | [], _ => rfl
  | x :: r, n => by
    unfold opens
    rw [List.filter_cons]
    cases isOpen x
    · simp only [Bool.false_eq_true, if_false]; exact opens_len r (n + 1)
    · simp only [if_true, List.length_cons]; rw [opens_len r (n + 1)]
theorem opens_mem : ∀ {l : List Ca} {n i : Nat}, i ∈ opens l n → n ≤ i ∧ ∃ x, l[i - n]? = some x ∧ x.ret < 0
  | [], _, _, h => by cases h
  | x :: r, n, i, h => by
    unfold opens at h
    have step : i ∈ opens r (n + 1) → n ≤ i ∧ ∃ y, (x :: r)[i - n]? = some y ∧ y.ret < 0 := fun h => by
      obtain ⟨a, y, hy, hr⟩ := opens_mem h
      refine ⟨by omega, y, ?_, hr⟩
      have e : i - n = (i - (n + 1)) + 1 := by omega
      rw [e, List.getElem?_cons_succ]; exact hy
    cases ho : isOpen x with
    | false => rw [ho] at h; exact step h
    | true =>
      rw [ho, if_pos rfl] at h
      rcases List.mem_cons.1 h with rfl | h
      · exact ⟨Nat.le_refl _, x, by rw [Nat.sub_self]; rfl, of_decide_eq_true ho⟩
      · exact step h
theorem opens_nodup : ∀ (l : List Ca) (n : Nat), (opens l n).Nodup
  | [], _ => List.nodup_nil
  | x :: r, n => by
    unfold opens
    split
    · exact List.nodup_cons.2 ⟨fun h => by have := (opens_mem h).1; omega, opens_nodup r (n + 1)⟩
    · exact opens_nodup r (n + 1)
theorem CroOk.opens {c : Cro} (h : CroOk c) : (c.cas.filter isOpen).length ≤ c.sl.length := by
  rw [← opens_len c.cas 0]
  refine Nat.le_trans (List.Nodup.length_le_of_subset (l₂ := c.sl.filterMap id) (opens_nodup c.cas 0) (fun i hi => ?_)) (List.length_filterMap_le _ _)
  obtain ⟨_, x, hx, hr⟩ := opens_mem hi
  rw [Nat.sub_zero] at hx
  obtain ⟨t, ht⟩ := h.open_ i x hx hr
  exact List.mem_filterMap.2 ⟨some i, List.mem_of_getElem? ht, rfl⟩
/-! calls of one key -/
theorem Fit.first {r : List Ca} {S : SetB} (h : Fit r S) : (∀ c ∈ r, c.ret < 0) ∨ ∃ a b c, r = a ++ c :: b ∧ (0 ≤ c.ret → doOk c.kind (S c.key) = c.ok) ∧ Fit (a ++ b) (up S c) := by
  cases h with
  | all h => exact Or.inl h
  | step h1 h2 h3 => exact Or.inr ⟨_, _, _, rfl, h2, h3⟩
theorem Fit.sole {c : Ca} {S : SetB} (h : Fit [c] S) (hr : 0 ≤ c.ret) : doOk c.kind (S c.key) = c.ok := by
  rcases h.first with h | ⟨a, b, x, e, h1, _⟩
  · have := h c (by simp); omega
  · cases a with
    | nil =>
      simp only [List.nil_append, List.cons.injEq] at e
      obtain ⟨rfl, _⟩ := e
      exact h1 hr
    | cons y a =>
      have := congrArg List.length e
      simp at this
/-- two that insert one key, both answered: one of them was first -/
theorem Fit.two {c d : Ca} {S : SetB} (h : Fit [c, d] S) (hc : 0 ≤ c.ret) (hd : 0 ≤ d.ret) (kc : c.kind = 1) (kd : d.kind = 1) (hk : c.key = d.key) (hS : S c.key = false) : c.ok ≠ d.ok := by
  have two : ∀ {x y : Ca}, x.kind = 1 → y.kind = 1 → x.key = y.key → S x.key = false → 0 ≤ y.ret → doOk x.kind (S x.key) = x.ok → Fit [y] (up S x) → x.ok ≠ y.ok := fun {x y} hx hy hxy hs hr h1 h2 => by
    have h3 := h2.sole hr
    rw [hx, hs] at h1
    have h4 : up S x y.key = true := by
      unfold up
      rw [if_pos hxy.symm, hx]
      rfl
    rw [hy, h4] at h3
    have e1 : doOk 1 false = true := rfl
    have e2 : doOk 1 true = false := rfl
    rw [← h1, ← h3, e1, e2]
    decide
  rcases h.first with h | ⟨a, b, x, e, h1, h2⟩
  · have := h c (by simp); omega
  · match a, e with
    | [], e =>
      simp only [List.nil_append, List.cons.injEq] at e
      obtain ⟨rfl, rfl⟩ := e
      exact two kc kd hk hS hd (h1 hc) h2
    | [y], e =>
      simp only [List.cons_append, List.nil_append, List.cons.injEq] at e
      obtain ⟨rfl, rfl, rfl⟩ := e
      exact (two kd kc hk.symm (by rw [← hk]; exact hS) hc (h1 hd) h2).symm
    | y :: z :: a, e =>
      have := congrArg List.length e
      simp at this
end Go.Proofs.Ytmhiolhgofackaa
