/- WATCHES COMPARED; two sorted rows of the same watches; turns of a row: plain facts -/
import Derived.Test.YtcieokfjkfpajaaSiRan
namespace Go.Proofs.Ytcieokfjkfpajaa
open Go.RowKit
set_option linter.unusedVariables false
set_option linter.unusedSimpArgs false

theorem neq_same (a b : Int) (f t : ByteArray) (X : World) : (binOp .neq 41 (.agg #[.int .i64 a, .int .i64 b, .string f, .string t]) (.agg #[.int .i64 a, .int .i64 b, .string f, .string t])).run Try.prog X = .ok (.bool false) X := by
  simp [go_sem]
theorem srt_unique : ∀ {l r : List Sb}, SrtL l → SrtL r → (∀ x, x ∈ l ↔ x ∈ r) → l = r
  | [], [], _, _, _ => rfl
  | [], y :: r, _, _, h => absurd ((h y).2 List.mem_cons_self) (by simp)
  | x :: l, [], _, _, h => absurd ((h x).1 List.mem_cons_self) (by simp)
  | x :: l, y :: r, hl, hr, h => by
    obtain ⟨l1, l2⟩ := List.pairwise_cons.1 hl
    obtain ⟨r1, r2⟩ := List.pairwise_cons.1 hr
    have hxy : x = y := by
      rcases List.mem_cons.1 ((h x).1 List.mem_cons_self) with e | hx
      · exact e
      · rcases List.mem_cons.1 ((h y).2 List.mem_cons_self) with e | hy
        · exact e.symm
        · have q := lsS_asymm (l1 y hy); rw [r1 x hx] at q; cases q
    subst hxy
    rw [srt_unique l2 r2 fun z => ?_]
    constructor
    · intro hz
      rcases List.mem_cons.1 ((h z).1 (List.mem_cons_of_mem _ hz)) with e | h'
      · have q := l1 z hz; rw [e, lsS_irrefl] at q; cases q
      · exact h'
    · intro hz
      rcases List.mem_cons.1 ((h z).2 (List.mem_cons_of_mem _ hz)) with e | h'
      · have q := r1 z hz; rw [e, lsS_irrefl] at q; cases q
      · exact h'
def okS (s : Sb) : Prop := emptyB s.f.toList s.t.toList = false
/-- where the other one stands -/
def idxT (n b i : Nat) : Nat := n - 1 - (i + b) % n
theorem idxT_lt {n b i : Nat} (hn : 0 < n) : idxT n b i < n := by unfold idxT; omega
theorem idxT_inj {n b i m : Nat} (hm : m < i) (hi : i < n) : idxT n b m ≠ idxT n b i := by
  intro e
  unfold idxT at e
  have h1 := Nat.mod_lt (m + b) (show 0 < n by omega)
  have h2 := Nat.mod_lt (i + b) (show 0 < n by omega)
  have e2 : (i + b) % n = (m + b) % n := by omega
  have h3 := Nat.sub_mod_eq_zero_of_mod_eq e2
  rw [show i + b - (m + b) = i - m by omega, Nat.mod_eq_of_lt (by omega)] at h3
  omega
theorem idxT_sur {n b t : Nat} (ht : t < n) : ∃ m, m < n ∧ idxT n b m = t := by
  refine ⟨(n - 1 - t + (n - b % n)) % n, Nat.mod_lt _ (by omega), ?_⟩
  have hb := Nat.div_add_mod b n
  have hbn := Nat.mod_lt b (show 0 < n by omega)
  unfold idxT
  rw [Nat.mod_add_mod]
  have e : n - 1 - t + (n - b % n) + b = (n - 1 - t) + n * (1 + b / n) := by
    rw [Nat.mul_add, Nat.mul_one]
    generalize n * (b / n) = q at *
    omega
  rw [e, Nat.add_mul_mod_self_left, Nat.mod_eq_of_lt (by omega)]
  omega
/-- no two of one number -/
def Uniq (l : List Sb) (j : Nat) : Prop := ∀ (i m : Nat) (x y : Sb), i < j → m < i → l[i]? = some x → l[m]? = some y → x.id ≠ y.id
theorem Uniq.ne {l : List Sb} (h : Uniq l l.length) {i m : Nat} {x y : Sb} (hx : l[i]? = some x) (hy : l[m]? = some y) (hn : i ≠ m) : x.id ≠ y.id := by
  have hi := (List.getElem?_eq_some_iff.1 hx).1
  have hm := (List.getElem?_eq_some_iff.1 hy).1
  rcases Nat.lt_or_gt_of_ne hn with h1 | h1
  · exact fun e => h m i y x hm h1 hy hx e.symm
  · exact h i m x y hi h1 hx hy
/-- what stands in an index behind j turns -/
def Has (l : List Sb) (ix : Nat → Nat) (j : Nat) (L : List Sb) : Prop := ∀ s, s ∈ L ↔ okS s ∧ ∃ m, m < j ∧ l[ix m]? = some s
theorem Has.zero (l : List Sb) (ix : Nat → Nat) : Has l ix 0 [] := fun s => by simp
theorem Has.no {l : List Sb} {ix : Nat → Nat} {j : Nat} {L : List Sb} (h : Has l ix j L) (hu : Uniq l l.length) (hi : ∀ m, m < j → ix m ≠ ix j) {x : Sb} (hx : l[ix j]? = some x) : hasId L x.id = false := by
  cases hh : hasId L x.id with
  | false => rfl
  | true =>
    obtain ⟨s, hs, e⟩ := hasId_iff.1 hh
    obtain ⟨_, m, hm, hl⟩ := (h s).1 hs
    exact absurd e (Uniq.ne hu hl hx (hi m hm))
theorem Has.step {l : List Sb} {ix : Nat → Nat} {j : Nat} {L : List Sb} (h : Has l ix j L) (hu : Uniq l l.length) (hi : ∀ m, m < j → ix m ≠ ix j) {x : Sb} (hx : l[ix j]? = some x) : Has l ix (j + 1) (addL L x) := by
  have hno := h.no hu hi hx
  intro s
  have key : (okS s ∧ ∃ m, m < j + 1 ∧ l[ix m]? = some s) ↔ s ∈ L ∨ (s = x ∧ okS x) := by
    rw [h s]
    constructor
    · rintro ⟨h1, m, hm, h2⟩
      by_cases hmj : m = j
      · subst hmj; rw [hx] at h2; cases h2; exact Or.inr ⟨rfl, h1⟩
      · exact Or.inl ⟨h1, m, by omega, h2⟩
    · rintro (⟨h1, m, hm, h2⟩ | ⟨rfl, h1⟩)
      · exact ⟨h1, m, by omega, h2⟩
      · exact ⟨h1, j, by omega, hx⟩
  rw [key]
  cases he : emptyB x.f.toList x.t.toList with
  | true =>
    rw [(addE_empty he).2]
    constructor
    · exact Or.inl
    · rintro (h1 | ⟨_, h1⟩)
      · exact h1
      · unfold okS at h1; rw [he] at h1; cases h1
  | false =>
    rw [(addE_ok he hno).2, insL_mem]
    constructor
    · rintro (h1 | h1)
      · subst h1; exact Or.inr ⟨rfl, he⟩
      · exact Or.inl h1
    · rintro (h1 | ⟨h1, _⟩)
      · exact Or.inr h1
      · exact Or.inl h1
theorem Has.same {l : List Sb} {b : Nat} {LA LB : List Sb} (ha : Has l id l.length LA) (hb : Has l (idxT l.length b) l.length LB) (x : Sb) : x ∈ LA ↔ x ∈ LB := by
  rw [ha x, hb x]
  constructor
  · rintro ⟨h1, m, hm, h2⟩
    obtain ⟨q, hq, e⟩ := idxT_sur (b := b) hm
    exact ⟨h1, q, hq, by rw [e]; exact h2⟩
  · rintro ⟨h1, m, hm, h2⟩
    exact ⟨h1, _, (List.getElem?_eq_some_iff.1 h2).1, h2⟩
end Go.Proofs.Ytcieokfjkfpajaa
