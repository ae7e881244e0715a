/- CALLS DONE IN TURN, PLAINLY: what the set is behind each, and the rows that the laws make of them -/
import Derived.Test.YtbbhekmhffhpfaaOrSet
namespace Go.Proofs.Ytbbhekmhffhpfaa
set_option linter.unusedVariables false
set_option linter.unusedSimpArgs false

def upAll : SetB → List Ca → SetB
  | S, [] => S
  | S, c :: l => upAll (up S c) l
theorem upAll_snoc : ∀ (l : List Ca) (S : SetB) (c : Ca), upAll S (l ++ [c]) = up (upAll S l) c
  | [], S, c => rfl
  | d :: l, S, c => by
    show upAll (up S d) (l ++ [c]) = up (upAll (up S d) l) c
    exact upAll_snoc l (up S d) c
theorem told_snoc : ∀ (l : List Ca) (S : SetB) (c : Ca), told S (l ++ [c]) = (told S l && (doOk c.kind (upAll S l c.key) == c.ok))
  | [], S, c => by
    show (_ && told _ []) = (true && _)
    simp [told, upAll]
  | d :: l, S, c => by
    have ih := told_snoc l (up S d) c
    show ((doOk d.kind (S d.key) == d.ok) && told (up S d) (l ++ [c])) = _
    rw [ih]
    show _ = (((doOk d.kind (S d.key) == d.ok) && told (up S d) l) && (doOk c.kind (upAll (up S d) l c.key) == c.ok))
    rw [Bool.and_assoc]
theorem take_snocR {α : Type} {m : List α} {j : Nat} {x : α} (hx : m[j]? = some x) : m.take (j + 1) = m.take j ++ [x] := by
  obtain ⟨hj, rfl⟩ := List.getElem?_eq_some_iff.1 hx
  rw [List.take_add_one, List.getElem?_eq_getElem hj]; rfl
/-- the first j elements are turned -/
def turnL (t : Nat → Ca → Ca) (l : List Ca) (j : Nat) : List Ca := l.mapIdx (fun i c => if i < j then t i c else c)
section
variable {t : Nat → Ca → Ca} {l : List Ca} {j : Nat} {c : Ca}
theorem turnL_len : (turnL t l j).length = l.length := by simp [turnL]
theorem turnL_at (i : Nat) : (turnL t l j)[i]? = (l[i]?).map (fun c => if i < j then t i c else c) := by
  unfold turnL; rw [List.getElem?_mapIdx]
theorem turnL_zero : turnL t l 0 = l := by
  apply List.ext_getElem?
  intro i
  rw [turnL_at]
  cases l[i]? <;> simp
theorem turnL_here (hc : l[j]? = some c) : (turnL t l j)[j]? = some c := by rw [turnL_at, hc]; simp
theorem turnL_step (hc : l[j]? = some c) : (turnL t l j).set j (t j c) = turnL t l (j + 1) := by
  apply List.ext_getElem?
  intro i
  have hj := (List.getElem?_eq_some_iff.1 hc).1
  rw [List.getElem?_set, turnL_len, turnL_at, turnL_at]
  by_cases e : j = i
  · subst e
    rw [if_pos rfl, if_pos hj, hc]; simp
  · rw [if_neg e]
    by_cases h : i < j
    · have h' : i < j + 1 := by omega
      simp [h, h']
    · have h' : ¬ i < j + 1 := by omega
      simp [h, h']
end
def seqC (i : Nat) (c : Ca) : Ca := ⟨c.kind, c.key, c.ok, 2 * (i : Int), 2 * (i : Int) + 1⟩
/-- two lists of calls that do the same -/
theorem told_same : ∀ {a b : List Ca} {S : SetB}, a.length = b.length → (∀ i : Nat, ∀ x y, a[i]? = some x → b[i]? = some y → x.kind = y.kind ∧ x.key = y.key ∧ x.ok = y.ok) → told S a = told S b
  | [], [], S, _, _ => rfl
  | [], y :: b, S, h, _ => by simp at h
  | x :: a, [], S, h, _ => by simp at h
  | x :: a, y :: b, S, h, k => by
    obtain ⟨h1, h2, h3⟩ := k 0 x y rfl rfl
    have hu : up S x = up S y := by unfold up; rw [h1, h2]
    unfold told
    rw [told_same (a := a) (b := b) (by simpa using h) (fun i u v hu hv => k (i + 1) u v hu hv), h1, h2, h3, hu]
theorem pairwise_at {α : Type} {R : α → α → Prop} : ∀ {l : List α}, (∀ (i j : Nat) x y, i < j → l[i]? = some x → l[j]? = some y → R x y) → l.Pairwise R
  | [], _ => List.Pairwise.nil
  | a :: l, h => by
    refine List.pairwise_cons.2 ⟨fun y hy => ?_, pairwise_at fun i j x y hij hx hy => h (i + 1) (j + 1) x y (by omega) hx hy⟩
    obtain ⟨j, hj⟩ := List.mem_iff_getElem?.1 hy
    exact h 0 (j + 1) a y (by omega) rfl hj
theorem runs_eq {first : List ByteArray} {l : List Ca} (h12 : l.length ≤ 12) : fitsB first (turnL seqC l l.length) = told (inS first) l := by
  have hat : ∀ (i : Nat) (x : Ca), (turnL seqC l l.length)[i]? = some x → ∃ c, l[i]? = some c ∧ x = seqC i c := by
    intro i x hx
    rw [turnL_at] at hx
    cases hc : l[i]? with
    | none => rw [hc] at hx; cases hx
    | some c =>
      rw [hc] at hx
      have hi := (List.getElem?_eq_some_iff.1 hc).1
      simp only [Option.map_some, hi, if_true, Option.some.injEq] at hx
      exact ⟨c, rfl, hx.symm⟩
  have hs : told (inS first) (turnL seqC l l.length) = told (inS first) l := told_same turnL_len (fun i x y hx hy => by
    obtain ⟨c, hc, rfl⟩ := hat i x hx
    rw [hy] at hc; cases hc
    exact ⟨rfl, rfl, rfl⟩)
  have hself : ∀ c ∈ turnL seqC l l.length, ahead c c = false ∧ ¬ c.ret < 0 := by
    intro c hc
    obtain ⟨i, hi⟩ := List.mem_iff_getElem?.1 hc
    obtain ⟨d, _, rfl⟩ := hat i c hi
    unfold ahead seqC
    simp only [Bool.and_eq_false_iff, decide_eq_false_iff_not]
    omega
  cases ht : told (inS first) l with
  | true =>
    refine fitsB_true.2 ⟨by rw [turnL_len]; exact h12, fun c hc => (hself c hc).1, Fit.turns ?_ (fun c hc => (hself c hc).1) (by rw [hs]; exact ht)⟩
    refine pairwise_at fun i j x y hij hx hy => ?_
    obtain ⟨c, _, rfl⟩ := hat i x hx
    obtain ⟨d, _, rfl⟩ := hat j y hy
    unfold ahead seqC
    simp only [Bool.and_eq_false_iff, decide_eq_false_iff_not]
    omega
  | false =>
    refine fitsB_false.2 fun h => ?_
    have hp : (turnL seqC l l.length).Pairwise (fun c d => ahead c d = true) := by
      refine pairwise_at fun i j x y hij hx hy => ?_
      obtain ⟨c, _, rfl⟩ := hat i x hx
      obtain ⟨d, _, rfl⟩ := hat j y hy
      unfold ahead seqC
      simp only [Bool.and_eq_true, decide_eq_true_eq]
      omega
    rcases h.2.2.only hp with h1 | ⟨c, hc, h1⟩
    · rw [hs, ht] at h1; cases h1
    · exact (hself c hc).2 h1

theorem told_true : ∀ {l : List Ca} {S : SetB}, (∀ (i : Nat) (x : Ca), l[i]? = some x → doOk x.kind (upAll S (l.take i) x.key) = x.ok) → told S l = true
  | [], S, _ => rfl
  | c :: l, S, h => by
    have h0 := h 0 c rfl
    have ih := told_true (l := l) (S := up S c) (fun i x hx => h (i + 1) x hx)
    show ((doOk c.kind (S c.key) == c.ok) && told (up S c) l) = true
    rw [ih, Bool.and_true, beq_iff_eq]
    exact h0
theorem upAll_same : ∀ {a b : List Ca} {S : SetB}, a.length = b.length → (∀ (i : Nat) (x y : Ca), a[i]? = some x → b[i]? = some y → x.kind = y.kind ∧ x.key = y.key) → upAll S a = upAll S b
  | [], [], S, _, _ => rfl
  | [], y :: b, S, h, _ => by simp at h
  | x :: a, [], S, h, _ => by simp at h
  | x :: a, y :: b, S, h, k => by
    obtain ⟨h1, h2⟩ := k 0 x y rfl rfl
    have hu : up S x = up S y := by unfold up; rw [h1, h2]
    show upAll (up S x) a = upAll (up S y) b
    rw [hu]
    exact upAll_same (by simpa using h) (fun i u v hu hv => k (i + 1) u v hu hv)
def wdN (wide : List Nat) (i : Nat) : Nat := (wide[i]?).getD 0
def moreN (n : Nat) : Int := if n % 4 = 3 then 500 else 0
def doneC (first : List ByteArray) (l : List Ca) (wide : List Nat) (i : Nat) (c : Ca) : Ca :=
  ⟨c.kind, c.key, doOk c.kind (upAll (inS first) (l.take i) c.key), 100 * ((i : Int) + 1) - (wdN wide i : Int), 100 * ((i : Int) + 1) + (wdN wide i : Int) + moreN (wdN wide i)⟩
theorem done_fits {first : List ByteArray} {l : List Ca} {wide : List Nat} (h12 : l.length ≤ 12) : fitsB first (turnL (doneC first l wide) l l.length) = true := by
  have hat : ∀ (i : Nat) (x : Ca), (turnL (doneC first l wide) l l.length)[i]? = some x → ∃ c, l[i]? = some c ∧ x = doneC first l wide i c := by
    intro i x hx
    rw [turnL_at] at hx
    cases hc : l[i]? with
    | none => rw [hc] at hx; cases hx
    | some c =>
      rw [hc] at hx
      have hi := (List.getElem?_eq_some_iff.1 hc).1
      simp only [Option.map_some, hi, if_true, Option.some.injEq] at hx
      exact ⟨c, rfl, hx.symm⟩
  have hm : ∀ n, 0 ≤ moreN n := fun n => by unfold moreN; split <;> omega
  have hself : ∀ c ∈ turnL (doneC first l wide) l l.length, ahead c c = false := by
    intro c hc
    obtain ⟨i, hi⟩ := List.mem_iff_getElem?.1 hc
    obtain ⟨d, _, rfl⟩ := hat i c hi
    have := hm (wdN wide i)
    unfold ahead doneC
    simp only [Bool.and_eq_false_iff, decide_eq_false_iff_not]
    omega
  refine fitsB_true.2 ⟨by rw [turnL_len]; exact h12, hself, Fit.turns ?_ hself (told_true ?_)⟩
  · refine pairwise_at fun i j x y hij hx hy => ?_
    obtain ⟨c, _, rfl⟩ := hat i x hx
    obtain ⟨d, _, rfl⟩ := hat j y hy
    have := hm (wdN wide j)
    unfold ahead doneC
    simp only [Bool.and_eq_false_iff, decide_eq_false_iff_not]
    omega
  · intro i x hx
    obtain ⟨c, hc, rfl⟩ := hat i x hx
    have hu : upAll (inS first) ((turnL (doneC first l wide) l l.length).take i) = upAll (inS first) (l.take i) := by
      refine upAll_same (by rw [List.length_take, List.length_take, turnL_len]) (fun k u v hu hv => ?_)
      rw [List.getElem?_take] at hu hv
      by_cases hk : k < i
      · rw [if_pos hk] at hu hv
        obtain ⟨d, hd, rfl⟩ := hat k u hu
        rw [hv] at hd; cases hd
        exact ⟨rfl, rfl⟩
      · rw [if_neg hk] at hu; cases hu
    rw [hu]; rfl
end Go.Proofs.Ytbbhekmhffhpfaa
