/- CALLS THAT OVERLAP, PLAINLY: whether those that are left can stand in an order; its laws. No memory here. -/
import Derived.Test.YtmhiolhgofackaaRows
namespace Go.Proofs.Ytmhiolhgofackaa
set_option linter.unusedVariables false
set_option linter.unusedSimpArgs false

structure Ca where
  kind : Int
  key : ByteArray
  ok : Bool
  inv : Int
  ret : Int

/-- answered before the other one began -/
def ahead (a b : Ca) : Bool := decide (0 ≤ a.ret) && decide (a.ret < b.inv)
def doOk (k : Int) (was : Bool) : Bool := if k = 1 then !was else was
def doIs (k : Int) (was : Bool) : Bool := if k = 1 then true else if k = 2 then false else was
abbrev SetB := ByteArray → Bool
/-- a set behind a call -/
def up (S : SetB) (c : Ca) : SetB := fun k => if k = c.key then doIs c.kind (S c.key) else S k
def inS (l : List ByteArray) : SetB := fun k => l.any (fun x => decide (x = k))

/-- what is left can stand in an order -/
inductive Fit : List Ca → SetB → Prop
  | all {r : List Ca} {S : SetB} : (∀ c ∈ r, c.ret < 0) → Fit r S
  | step {a b : List Ca} {c : Ca} {S : SetB} : (∀ d ∈ a ++ c :: b, ahead d c = false) → (0 ≤ c.ret → doOk c.kind (S c.key) = c.ok) → Fit (a ++ b) (up S c) → Fit (a ++ c :: b) S

/-- the same, of the places that are left -/
inductive FitI (l : List Ca) : (Nat → Bool) → SetB → Prop
  | all {f : Nat → Bool} {S : SetB} : (∀ i c, l[i]? = some c → f i = false → c.ret < 0) → FitI l f S
  | step {f : Nat → Bool} {S : SetB} (i : Nat) (c : Ca) : l[i]? = some c → f i = false → (∀ j d, l[j]? = some d → f j = false → ahead d c = false) →
      (0 ≤ c.ret → doOk c.kind (S c.key) = c.ok) → FitI l (fun j => if j = i then true else f j) (up S c) → FitI l f S

def fits (first : List ByteArray) (l : List Ca) : Prop := l.length ≤ 12 ∧ (∀ c ∈ l, ahead c c = false) ∧ Fit l (inS first)
open Classical in
noncomputable def fitsB (first : List ByteArray) (l : List Ca) : Bool := decide (fits first l)
theorem fitsB_true {first : List ByteArray} {l : List Ca} : fitsB first l = true ↔ fits first l := by unfold fitsB; simp
theorem fitsB_false {first : List ByteArray} {l : List Ca} : fitsB first l = false ↔ ¬ fits first l := by unfold fitsB; simp
theorem fitsB_eq {f1 f2 : List ByteArray} {l1 l2 : List Ca} (h : fits f1 l1 ↔ fits f2 l2) : fitsB f1 l1 = fitsB f2 l2 := by
  by_cases k : fits f1 l1
  · rw [fitsB_true.2 k, fitsB_true.2 (h.1 k)]
  · rw [fitsB_false.2 k, fitsB_false.2 (fun x => k (h.2 x))]

/-! what is left, as a list -/
def rest : List Ca → (Nat → Bool) → List Ca
  | [], _ => []
  | c :: l, f => if f 0 = true then rest l (fun i => f (i + 1)) else c :: rest l (fun i => f (i + 1))
theorem rest_none : ∀ l : List Ca, rest l (fun _ => false) = l
  | [] => rfl
  | c :: l => by unfold rest; rw [if_neg (by simp), rest_none l]
theorem mem_rest {d : Ca} : ∀ {l : List Ca} {f : Nat → Bool}, d ∈ rest l f ↔ ∃ j, l[j]? = some d ∧ f j = false
  | [], f => by simp [rest]
  | c :: l, f => by
    have ih := @mem_rest d l (fun i => f (i + 1))
    unfold rest
    by_cases h : f 0 = true
    · rw [if_pos h, ih]
      constructor
      · rintro ⟨j, h1, h2⟩; exact ⟨j + 1, h1, h2⟩
      · rintro ⟨j, h1, h2⟩
        cases j with
        | zero => rw [h] at h2; cases h2
        | succ j => exact ⟨j, h1, h2⟩
    · rw [if_neg h, List.mem_cons, ih]
      constructor
      · rintro (rfl | ⟨j, h1, h2⟩)
        · exact ⟨0, rfl, by simpa using h⟩
        · exact ⟨j + 1, h1, h2⟩
      · rintro ⟨j, h1, h2⟩
        cases j with
        | zero => left; simp at h1; exact h1.symm
        | succ j => exact Or.inr ⟨j, h1, h2⟩
def upd (f : Nat → Bool) (i : Nat) : Nat → Bool := fun j => if j = i then true else f j
theorem upd_succ (f : Nat → Bool) (i : Nat) : (fun j => upd f (i + 1) (j + 1)) = upd (fun j => f (j + 1)) i := by
  funext j; unfold upd; by_cases h : j = i <;> simp [h]
theorem upd_zero (f : Nat → Bool) : (fun j => upd f 0 (j + 1)) = (fun j => f (j + 1)) := by funext j; simp [upd]
theorem rest_split {c : Ca} : ∀ {l : List Ca} {f : Nat → Bool} {i : Nat}, l[i]? = some c → f i = false → ∃ a b, rest l f = a ++ c :: b ∧ rest l (upd f i) = a ++ b
  | [], f, i, h, _ => by simp at h
  | x :: l, f, 0, h, h2 => by
    simp at h; subst h
    refine ⟨[], rest l (fun j => f (j + 1)), ?_, ?_⟩
    · conv => lhs; unfold rest
      rw [if_neg (by simp [h2])]; rfl
    · conv => lhs; unfold rest
      rw [if_pos (by simp [upd]), upd_zero]; rfl
  | x :: l, f, i + 1, h, h2 => by
    obtain ⟨a, b, h3, h4⟩ := rest_split (f := fun j => f (j + 1)) (i := i) (by simpa using h) h2
    by_cases h0 : f 0 = true
    · refine ⟨a, b, ?_, ?_⟩
      · conv => lhs; unfold rest
        rw [if_pos h0, h3]
      · conv => lhs; unfold rest
        rw [if_pos (by simpa [upd] using h0), upd_succ, h4]
    · refine ⟨x :: a, b, ?_, ?_⟩
      · conv => lhs; unfold rest
        rw [if_neg h0, h3]; rfl
      · conv => lhs; unfold rest
        rw [if_neg (by simpa [upd] using h0), upd_succ, h4]; rfl
theorem rest_find {c : Ca} : ∀ {l : List Ca} {f : Nat → Bool} {a b : List Ca}, rest l f = a ++ c :: b → ∃ i, l[i]? = some c ∧ f i = false ∧ rest l (upd f i) = a ++ b
  | [], f, a, b, h => by simp [rest] at h
  | x :: l, f, a, b, h => by
    unfold rest at h
    by_cases h0 : f 0 = true
    · rw [if_pos h0] at h
      obtain ⟨i, h1, h2, h3⟩ := rest_find h
      refine ⟨i + 1, by simpa using h1, h2, ?_⟩
      conv => lhs; unfold rest
      rw [if_pos (by simpa [upd] using h0), upd_succ, h3]
    · rw [if_neg h0] at h
      rcases List.cons_eq_append_iff.1 h with ⟨rfl, hb⟩ | ⟨a', rfl, hb⟩
      · obtain ⟨rfl, rfl⟩ := List.cons.inj hb
        refine ⟨0, rfl, by simpa using h0, ?_⟩
        conv => lhs; unfold rest
        rw [if_pos (by simp [upd]), upd_zero]; rfl
      · obtain ⟨i, h1, h2, h3⟩ := rest_find hb
        refine ⟨i + 1, by simpa using h1, h2, ?_⟩
        conv => lhs; unfold rest
        rw [if_neg (by simpa [upd] using h0), upd_succ, h3]; rfl
theorem FitI.to {l : List Ca} {f : Nat → Bool} {S : SetB} (h : FitI l f S) : Fit (rest l f) S := by
  induction h with
  | all h => exact Fit.all fun c hc => by obtain ⟨j, h1, h2⟩ := mem_rest.1 hc; exact h j c h1 h2
  | @step f S i c h1 h2 h3 h4 _ ih =>
    obtain ⟨a, b, h5, h6⟩ := rest_split h1 h2
    have ih' : Fit (rest l (upd f i)) (up S c) := ih
    rw [h6] at ih'
    rw [h5]
    refine Fit.step (fun d hd => ?_) h4 ih'
    rw [← h5] at hd
    obtain ⟨j, h7, h8⟩ := mem_rest.1 hd
    exact h3 j d h7 h8
theorem Fit.back {l : List Ca} {r : List Ca} {S : SetB} (h : Fit r S) : ∀ {f : Nat → Bool}, rest l f = r → FitI l f S := by
  induction h with
  | all h => intro f e; exact FitI.all fun i c h1 h2 => h c (by rw [← e]; exact mem_rest.2 ⟨i, h1, h2⟩)
  | step h1 h2 _ ih =>
    intro f e
    obtain ⟨i, h3, h4, h5⟩ := rest_find e
    exact FitI.step i _ h3 h4 (fun j d h6 h7 => h1 d (by rw [← e]; exact mem_rest.2 ⟨j, h6, h7⟩)) h2 (ih h5)
theorem fitI_iff {l : List Ca} {f : Nat → Bool} {S : SetB} : FitI l f S ↔ Fit (rest l f) S := ⟨FitI.to, fun h => h.back rfl⟩
theorem fit_all {l : List Ca} {S : SetB} : FitI l (fun _ => false) S ↔ Fit l S := by rw [fitI_iff, rest_none]
theorem FitI.congr {l : List Ca} {f g : Nat → Bool} {S S' : SetB} (h : FitI l f S) (hf : ∀ i, i < l.length → f i = g i) (hS : ∀ (i : Nat) (c : Ca), l[i]? = some c → S c.key = S' c.key) : FitI l g S' := by
  induction h generalizing g S' with
  | all h => exact FitI.all fun i c h1 h2 => h i c h1 (by rw [hf i (List.getElem?_eq_some_iff.1 h1).1]; exact h2)
  | @step f S i c h1 h2 h3 h4 _ ih =>
    refine FitI.step i c h1 (by rw [← hf i (List.getElem?_eq_some_iff.1 h1).1]; exact h2) (fun j d h5 h6 => h3 j d h5 (by rw [hf j (List.getElem?_eq_some_iff.1 h5).1]; exact h6)) (by rw [← hS i c h1]; exact h4) (ih (fun j hj => ?_) (fun j d hd => ?_))
    · dsimp only; by_cases e : j = i
      · rw [if_pos e, if_pos e]
      · rw [if_neg e, if_neg e]; exact hf j hj
    · unfold up; rw [hS i c h1, hS j d hd]
/-- how many are left -/
def left (l : List Ca) (f : Nat → Bool) : Nat := (rest l f).length
theorem left_upd {l : List Ca} {f : Nat → Bool} {i : Nat} {c : Ca} (h : l[i]? = some c) (h2 : f i = false) : left l (upd f i) + 1 = left l f := by
  obtain ⟨a, b, h3, h4⟩ := rest_split h h2
  unfold left
  rw [h3, h4]; simp; omega
theorem rest_congr : ∀ {l : List Ca} {f g : Nat → Bool}, (∀ i, i < l.length → f i = g i) → rest l f = rest l g
  | [], _, _, _ => rfl
  | x :: l, f, g, h => by
    unfold rest
    rw [h 0 (by simp), rest_congr (l := l) (f := fun i => f (i + 1)) (g := fun i => g (i + 1)) (fun i hi => h (i + 1) (by simpa using hi))]

/-! laws -/
theorem Fit.congr {r : List Ca} {S S' : SetB} (h : Fit r S) (hS : ∀ c ∈ r, S c.key = S' c.key) : Fit r S' := by
  induction h generalizing S' with
  | all h => exact Fit.all h
  | @step a b c S h1 h2 _ ih =>
    have hc := hS c (by simp)
    refine Fit.step h1 (by rw [← hc]; exact h2) (ih fun d hd => ?_)
    have hd' := hS d (by simp only [List.mem_append, List.mem_cons] at hd ⊢; rcases hd with h | h <;> simp [h])
    unfold up; rw [hc, hd']
theorem Fit.keyed {r : List Ca} {S : SetB} (h : Fit r S) (k : ByteArray) : Fit (r.filter (fun c => decide (c.key = k))) S := by
  induction h with
  | all h => exact Fit.all fun c hc => h c ((List.mem_filter.1 hc).1)
  | @step a b c S h1 h2 _ ih =>
    rw [List.filter_append] at ih ⊢
    by_cases e : c.key = k
    · rw [List.filter_cons_of_pos (by simpa using e)]
      refine Fit.step (fun d hd => h1 d ?_) h2 ih
      rw [← List.filter_cons_of_pos (p := fun c : Ca => decide (c.key = k)) (by simpa using e), ← List.filter_append] at hd
      exact (List.mem_filter.1 hd).1
    · rw [List.filter_cons_of_neg (by simpa using e)]
      refine ih.congr fun d hd => ?_
      rw [← List.filter_append] at hd
      have : d.key = k := by simpa using (List.mem_filter.1 hd).2
      unfold up
      rw [if_neg (by rw [this]; exact fun h => e h.symm)]
theorem least {P : Ca → Prop} : ∀ {r : List Ca}, (∃ c ∈ r, P c) → ∃ c ∈ r, P c ∧ ∀ d ∈ r, P d → c.inv ≤ d.inv
  | [], h => by simp at h
  | x :: r, h => by
    by_cases hr : ∃ c ∈ r, P c
    · obtain ⟨c, h1, h2, h3⟩ := least hr
      by_cases hx : P x ∧ x.inv ≤ c.inv
      · refine ⟨x, by simp, hx.1, fun d hd hp => ?_⟩
        rcases List.mem_cons.1 hd with rfl | hd
        · exact Int.le_refl _
        · exact Int.le_trans hx.2 (h3 d hd hp)
      · refine ⟨c, by simp [h1], h2, fun d hd hp => ?_⟩
        rcases List.mem_cons.1 hd with rfl | hd
        · have : ¬ d.inv ≤ c.inv := fun h => hx ⟨hp, h⟩
          omega
        · exact h3 d hd hp
    · obtain ⟨c, h1, h2⟩ := h
      rcases List.mem_cons.1 h1 with rfl | h1
      · refine ⟨c, by simp, h2, fun d hd hp => ?_⟩
        rcases List.mem_cons.1 hd with rfl | hd
        · exact Int.le_refl _
        · exact absurd ⟨d, hd, hp⟩ hr
      · exact absurd ⟨c, h1, h2⟩ hr
def ofKey (k : ByteArray) (r : List Ca) : List Ca := r.filter (fun c => decide (c.key = k))
theorem mem_ofKey {k : ByteArray} {r : List Ca} {d : Ca} : d ∈ ofKey k r ↔ d ∈ r ∧ d.key = k := by unfold ofKey; simp
/-- it can be done first, of its key -/
def Head (r : List Ca) (S : SetB) (c : Ca) : Prop := ∃ a b, ofKey c.key r = a ++ c :: b ∧ (∀ d ∈ ofKey c.key r, ahead d c = false) ∧ (0 ≤ c.ret → doOk c.kind (S c.key) = c.ok) ∧ Fit (a ++ b) (up S c)
theorem Fit.head {r : List Ca} {S : SetB} {k : ByteArray} (h : Fit (ofKey k r) S) {d : Ca} (hd : d ∈ ofKey k r) (hr : 0 ≤ d.ret) : ∃ c ∈ ofKey k r, Head r S c := by
  generalize hq : ofKey k r = q at h
  cases h with
  | all h => have := h d (by rw [← hq]; exact hd); omega
  | @step a b c _ h1 h2 h3 =>
    have hc : c ∈ ofKey k r := by rw [hq]; simp
    have hk : c.key = k := (mem_ofKey.1 hc).2
    refine ⟨c, by simp, a, b, by rw [hk]; exact hq, ?_, h2, h3⟩
    rw [hk, hq]; exact h1
theorem Fit.join : ∀ (n : Nat) {r : List Ca} {S : SetB}, r.length = n → (∀ k, Fit (ofKey k r) S) → Fit r S
  | n, r, S, hn, h => by
    by_cases hall : ∀ c ∈ r, c.ret < 0
    · exact Fit.all hall
    · obtain ⟨d, hd⟩ := Classical.not_forall.1 hall
      obtain ⟨hd, hret⟩ := Classical.not_imp.1 hd
      have hk := mem_ofKey.2 ⟨hd, (rfl : d.key = d.key)⟩
      obtain ⟨c0, hc0, hh0⟩ := (h d.key).head hk (by omega)
      obtain ⟨c, hc, ⟨a, b, h1, h2, h3, h4⟩, hmin⟩ := least (P := Head r S) ⟨c0, (mem_ofKey.1 hc0).1, hh0⟩
      have hfree : ∀ e ∈ r, ahead e c = false := by
        intro e he
        by_cases hek : e.key = c.key
        · exact h2 e (mem_ofKey.2 ⟨he, hek⟩)
        · by_cases hea : ahead e c = true
          · unfold ahead at hea
            simp only [Bool.and_eq_true, decide_eq_true_eq] at hea
            obtain ⟨x, hx, hxh⟩ := (h e.key).head (mem_ofKey.2 ⟨he, rfl⟩) hea.1
            have h5 := hmin x (mem_ofKey.1 hx).1 hxh
            obtain ⟨_, _, _, h6, _⟩ := hxh
            have hxk := (mem_ofKey.1 hx).2
            have h7 := h6 e (mem_ofKey.2 ⟨he, hxk.symm⟩)
            unfold ahead at h7
            simp only [Bool.and_eq_false_iff, decide_eq_false_iff_not] at h7
            omega
          · simpa using hea
      have h1' : r.filter (fun x => decide (x.key = c.key)) = a ++ c :: b := h1
      obtain ⟨l1, l2, rfl, e1, e2⟩ := List.filter_eq_append_iff.1 h1'
      obtain ⟨l3, l4, rfl, e3, e4, e5⟩ := List.filter_eq_cons_iff.1 e2
      have hl3 : l3.filter (fun x => decide (x.key = c.key)) = [] := List.filter_eq_nil_iff.2 (fun x hx => e3 x hx)
      have hsplit : l1 ++ (l3 ++ c :: l4) = (l1 ++ l3) ++ c :: l4 := by simp
      rw [hsplit] at hfree h hn ⊢
      refine Fit.step hfree h3 (Fit.join (n - 1) (by simp at hn ⊢; omega) fun k => ?_)
      by_cases hkc : k = c.key
      · subst hkc
        have : ofKey c.key (l1 ++ l3 ++ l4) = a ++ b := by unfold ofKey; simp only [List.filter_append, hl3, e1, e5, List.append_nil]
        rw [this]; exact h4
      · have : ofKey k (l1 ++ l3 ++ l4) = ofKey k (l1 ++ l3 ++ c :: l4) := by
          unfold ofKey
          rw [List.filter_append, List.filter_append (l₂ := c :: l4), List.filter_cons_of_neg (by simpa using fun e => hkc e.symm)]
        rw [this]
        refine (h k).congr fun x hx => ?_
        have hxk := (mem_ofKey.1 hx).2
        unfold up
        rw [if_neg (by rw [hxk]; exact hkc)]
  termination_by n => n
  decreasing_by
    have : 0 < n := by rw [← hn]; simp; omega
    omega
theorem fits_keys {first : List ByteArray} {l : List Ca} (hl : l.length ≤ 12) : fits first l ↔ ∀ c ∈ l, fits first (ofKey c.key l) := by
  constructor
  · rintro ⟨_, h2, h3⟩ c hc
    exact ⟨Nat.le_trans (List.length_filter_le _ _) hl, fun d hd => h2 d (mem_ofKey.1 hd).1, h3.keyed _⟩
  · intro h
    refine ⟨hl, fun c hc => (h c hc).2.1 c (mem_ofKey.2 ⟨hc, rfl⟩), Fit.join _ rfl fun k => ?_⟩
    by_cases hk : ∃ c ∈ l, c.key = k
    · obtain ⟨c, hc, rfl⟩ := hk
      exact (h c hc).2.2
    · refine Fit.all fun c hc => absurd ⟨c, (mem_ofKey.1 hc).1, (mem_ofKey.1 hc).2⟩ hk

/-- each told what it tells, done in turn -/
def told : SetB → List Ca → Bool
  | _, [] => true
  | S, c :: l => (doOk c.kind (S c.key) == c.ok) && told (up S c) l
/-- done in turn: nobody is answered ahead of the begin of one that stands ahead -/
theorem Fit.turns : ∀ {l : List Ca} {S : SetB}, l.Pairwise (fun c d => ahead d c = false) → (∀ c ∈ l, ahead c c = false) → told S l = true → Fit l S
  | [], S, _, _, _ => Fit.all (by simp)
  | c :: l, S, h1, h2, h3 => by
    obtain ⟨h4, h5⟩ := List.pairwise_cons.1 h1
    unfold told at h3
    simp only [Bool.and_eq_true, beq_iff_eq] at h3
    refine Fit.step (a := []) (b := l) (fun d hd => ?_) (fun _ => h3.1) (Fit.turns (l := l) h5 (fun d hd => h2 d (List.mem_cons_of_mem _ hd)) h3.2)
    simp only [List.nil_append, List.mem_cons] at hd
    rcases hd with rfl | hd
    · exact h2 d (by simp)
    · exact h4 d hd
/-- one behind the other: there is no other turn -/
theorem Fit.only : ∀ {l : List Ca} {S : SetB}, Fit l S → l.Pairwise (fun c d => ahead c d = true) → told S l = true ∨ ∃ c ∈ l, c.ret < 0
  | [], S, _, _ => Or.inl rfl
  | c :: l, S, h, hp => by
    obtain ⟨h4, h5⟩ := List.pairwise_cons.1 hp
    by_cases hneg : ∃ d ∈ c :: l, d.ret < 0
    · exact Or.inr hneg
    · left
      generalize hq : c :: l = q at h
      cases h with
      | all h => exact absurd ⟨c, by simp, h c (by rw [← hq]; simp)⟩ hneg
      | @step a b x _ h1 h2 h3 =>
        rcases List.cons_eq_append_iff.1 hq with ⟨rfl, e⟩ | ⟨a', rfl, e⟩
        · obtain ⟨rfl, rfl⟩ := List.cons.inj e
          show (_ && _) = true
          rw [Bool.and_eq_true]
          refine ⟨by simpa using h2 (Classical.byContradiction fun h => hneg ⟨x, by simp, by omega⟩), ?_⟩
          rcases Fit.only h3 h5 with h6 | ⟨d, hd, h6⟩
          · exact h6
          · exact absurd ⟨d, List.mem_cons_of_mem _ hd, h6⟩ hneg
        · have h6 := h4 x (by rw [e]; simp)
          rw [h1 c (by simp)] at h6
          cases h6
/-- one more that wasn't answered -/
theorem Fit.more {l : List Ca} {S : SetB} (h : Fit l S) {d : Ca} (hd : d.ret < 0) : Fit (l ++ [d]) S := by
  induction h with
  | all h =>
    refine Fit.all fun c hc => ?_
    rcases List.mem_append.1 hc with hc | hc
    · exact h c hc
    · simp at hc; subst hc; exact hd
  | @step a b c S h1 h2 _ ih =>
    rw [List.append_assoc, List.cons_append]
    refine Fit.step (fun x hx => ?_) h2 (by rw [← List.append_assoc]; exact ih)
    have hx' : x ∈ (a ++ c :: b) ∨ x = d := by
      simp only [List.mem_append, List.mem_cons, List.not_mem_nil, or_false] at hx ⊢
      rcases hx with h | h | h | h <;> simp [h]
    rcases hx' with hx' | rfl
    · exact h1 x hx'
    · unfold ahead
      simp; omega
/-- one that isn't answered any more -/
def Looser (c c' : Ca) : Prop := c'.kind = c.kind ∧ c'.key = c.key ∧ c'.inv = c.inv ∧ (c'.ret < 0 ∨ (c'.ret = c.ret ∧ c'.ok = c.ok))
theorem Looser.ahead {c c' d d' : Ca} (h : Looser c c') (k : Looser d d') (hc : ahead c d = false) : Go.Proofs.Ytmhiolhgofackaa.ahead c' d' = false := by
  obtain ⟨_, _, h3, h4⟩ := h
  obtain ⟨_, _, k3, k4⟩ := k
  unfold Go.Proofs.Ytmhiolhgofackaa.ahead at *
  simp only [Bool.and_eq_false_iff, decide_eq_false_iff_not] at *
  rcases h4 with h4 | ⟨h4, _⟩
  · left; omega
  · rw [h4, k3]; exact hc
theorem FitI.looser {l l' : List Ca} {f : Nat → Bool} {S : SetB} (h : FitI l f S) (hr : ∀ i : Nat, (∀ c', l'[i]? = some c' → ∃ c, l[i]? = some c ∧ Looser c c') ∧ (∀ c, l[i]? = some c → ∃ c', l'[i]? = some c')) : FitI l' f S := by
  induction h with
  | all h =>
    refine FitI.all fun i c' h1 h2 => ?_
    obtain ⟨c, h3, _, _, _, h4⟩ := (hr i).1 c' h1
    have := h i c h3 h2
    rcases h4 with h4 | ⟨h4, _⟩ <;> omega
  | @step f S i c h1 h2 h3 h4 _ ih =>
    obtain ⟨c', hc'⟩ := (hr i).2 c h1
    obtain ⟨c0, e0, hl⟩ := (hr i).1 c' hc'
    rw [h1] at e0
    cases e0
    have hl' := hl
    obtain ⟨l1, l2, l3, l4⟩ := hl'
    refine FitI.step i c' hc' h2 (fun j d' hd' hf => ?_) ?_ ?_
    · obtain ⟨d, hd, hld⟩ := (hr j).1 d' hd'
      exact hld.ahead hl (h3 j d hd hf)
    · rw [l1, l2]
      intro hret
      rcases l4 with l4 | ⟨l4, l5⟩
      · omega
      · rw [l5]; exact h4 (by omega)
    · have : up S c' = up S c := by unfold up; rw [l1, l2]
      rw [this]; exact ih
theorem fits_more {first : List ByteArray} {l : List Ca} {d : Ca} (h : fits first l) (hl : l.length < 12) (hd : d.ret < 0) : fits first (l ++ [d]) := by
  obtain ⟨h1, h2, h3⟩ := h
  refine ⟨by simp; omega, fun c hc => ?_, h3.more hd⟩
  rcases List.mem_append.1 hc with hc | hc
  · exact h2 c hc
  · simp at hc; subst hc; unfold ahead; simp; omega
theorem fits_open {first : List ByteArray} {l : List Ca} {k : Nat} {c : Ca} (h : fits first l) (hk : l[k]? = some c) : fits first (l.set k { c with ret := -1 }) := by
  obtain ⟨h1, h2, h3⟩ := h
  have hr : ∀ i : Nat, (∀ c', (l.set k { c with ret := -1 })[i]? = some c' → ∃ d, l[i]? = some d ∧ Looser d c') ∧ (∀ d, l[i]? = some d → ∃ c', (l.set k { c with ret := -1 })[i]? = some c') := by
    intro i
    rw [List.getElem?_set]
    by_cases e : k = i
    · subst e
      rw [if_pos rfl, if_pos (List.getElem?_eq_some_iff.1 hk).1]
      refine ⟨fun c' hc => ⟨c, hk, ?_⟩, fun d _ => ⟨_, rfl⟩⟩
      cases hc
      exact ⟨rfl, rfl, rfl, Or.inl (by simp)⟩
    · rw [if_neg e]
      exact ⟨fun c' hc => ⟨c', hc, rfl, rfl, rfl, Or.inr ⟨rfl, rfl⟩⟩, fun d hd => ⟨d, hd⟩⟩
  refine ⟨by simpa using h1, fun c' hc' => ?_, fit_all.1 ((fit_all.2 h3).looser hr)⟩
  obtain ⟨i, hi⟩ := List.mem_iff_getElem?.1 hc'
  obtain ⟨d, hd, hl⟩ := (hr i).1 c' hi
  exact hl.ahead hl (h2 d (List.mem_of_getElem? hd))
theorem fits_nil (first : List ByteArray) : fits first [] := ⟨by simp, by simp, Fit.all (by simp)⟩
theorem fits_one {first : List ByteArray} {c : Ca} : fits first [c] ↔ (c.ret < 0 ∨ (c.inv ≤ c.ret ∧ doOk c.kind (inS first c.key) = c.ok)) := by
  constructor
  · rintro ⟨_, h2, h3⟩
    by_cases hneg : c.ret < 0
    · exact Or.inl hneg
    · right
      have h4 := h2 c (by simp)
      unfold ahead at h4
      simp only [Bool.and_eq_false_iff, decide_eq_false_iff_not] at h4
      refine ⟨by omega, ?_⟩
      rcases h3.only (by simp) with h5 | ⟨d, hd, h5⟩
      · unfold told at h5
        simp only [Bool.and_eq_true, beq_iff_eq] at h5
        exact h5.1
      · simp at hd; subst hd; omega
  · intro h
    have hc : ahead c c = false := by
      unfold ahead
      simp only [Bool.and_eq_false_iff, decide_eq_false_iff_not]
      omega
    refine ⟨by simp, fun d hd => by simp at hd; subst hd; exact hc, ?_⟩
    rcases h with h | ⟨_, h⟩
    · exact Fit.all (by simpa using h)
    · exact Fit.turns (by simp) (by simpa using hc) (by unfold told; simp [h, told])
/-- the set as a list, behind a call -/
def doL (set : List ByteArray) (c : Ca) : List ByteArray := if c.kind = 1 then set.filter (fun k => !decide (k = c.key)) ++ [c.key] else if c.kind = 2 then set.filter (fun k => !decide (k = c.key)) else set
theorem any_but {set : List ByteArray} {x k : ByteArray} (hk : ¬ k = x) : (set.any fun a => !decide (a = x) && decide (a = k)) = set.any fun a => decide (a = k) := by
  congr 1; funext a
  by_cases h : a = k
  · subst h; simp [hk]
  · simp [h]
theorem doL_in (set : List ByteArray) (c : Ca) : inS (doL set c) = up (inS set) c := by
  funext k
  unfold inS doL up doIs
  by_cases h1 : c.kind = 1
  · simp only [h1, if_true]
    by_cases hk : k = c.key
    · simp [hk]
    · have hk' : ¬ c.key = k := fun e => hk e.symm
      simp [hk, hk', any_but hk]
  · simp only [h1, if_false]
    by_cases h2 : c.kind = 2
    · simp only [h2, if_true]
      by_cases hk : k = c.key
      · simp [hk]
      · simp [hk, any_but hk]
    · simp only [h2, if_false]
      by_cases hk : k = c.key <;> simp [hk]
theorem doL_len (set : List ByteArray) (c : Ca) : (doL set c).length ≤ set.length + 1 := by
  unfold doL
  have := List.length_filter_le (fun k => !decide (k = c.key)) set
  split
  · simp; omega
  · split <;> omega
end Go.Proofs.Ytmhiolhgofackaa
