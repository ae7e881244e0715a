/- PLAINLY: calls of one key that have a moment each, between their begin and their answer, fit -/
import Derived.Test.YtmhiolhgofackaaOr
namespace Go.Proofs.Ytmhiolhgofackaa
set_option linter.unusedVariables false
set_option linter.unusedSimpArgs false

/-- a call, and its moment: 2 m: it turned what there was, at m; 2 m + 1: it told what there was behind m -/
abbrev Itm := Ca × Option Nat
/-- what there is ahead of a moment -/
def sbM (st : Nat → Bool) (T : Nat) : Bool := if T % 2 = 0 then st (T / 2 - 1) else st (T / 2)
structure Lin (k : ByteArray) (st : Nat → Bool) (T : Nat) (it : List Itm) : Prop where
  key : ∀ x ∈ it, x.1.key = k
  open_ : ∀ x ∈ it, x.2 = none → x.1.ret < 0
  time : ∀ x ∈ it, ∀ m, x.2 = some m → T ≤ m ∧ x.1.inv ≤ ((m / 2 : Nat) : Int) ∧ (0 ≤ x.1.ret → ((m / 2 : Nat) : Int) ≤ x.1.ret)
  turn : ∀ x ∈ it, ∀ m, x.2 = some (2 * m) → 1 ≤ m ∧ st m = doIs x.1.kind (st (m - 1)) ∧ (0 ≤ x.1.ret → doOk x.1.kind (st (m - 1)) = x.1.ok)
  tell : ∀ x ∈ it, ∀ m, x.2 = some (2 * m + 1) → st m = doIs x.1.kind (st m) ∧ (0 ≤ x.1.ret → doOk x.1.kind (st m) = x.1.ok)
  flip : ∀ m, 1 ≤ m → T ≤ 2 * m → st m ≠ st (m - 1) → ∃ x ∈ it, x.2 = some (2 * m)
  one : it.Pairwise (fun x y => ∀ m, x.2 = some (2 * m) → y.2 ≠ some (2 * m))
theorem least_itm : ∀ {it : List Itm}, (∃ x ∈ it, x.2 ≠ none) → ∃ a x b m, it = a ++ x :: b ∧ x.2 = some m ∧ ∀ y ∈ it, ∀ m', y.2 = some m' → m ≤ m'
  | [], h => by obtain ⟨x, hx, _⟩ := h; cases hx
  | x :: r, h => by
    by_cases hr : ∃ y ∈ r, y.2 ≠ none
    · obtain ⟨a, y, b, m, h1, h2, h3⟩ := least_itm hr
      cases hx : x.2 with
      | none =>
        refine ⟨x :: a, y, b, m, by rw [h1]; rfl, h2, fun z hz m' hm => ?_⟩
        rcases List.mem_cons.1 hz with rfl | hz
        · rw [hx] at hm; cases hm
        · exact h3 z hz m' hm
      | some n =>
        by_cases hn : n ≤ m
        · refine ⟨[], x, r, n, rfl, hx, fun z hz m' hm => ?_⟩
          rcases List.mem_cons.1 hz with rfl | hz
          · rw [hx] at hm; cases hm; exact Nat.le_refl _
          · exact Nat.le_trans hn (h3 z hz m' hm)
        · refine ⟨x :: a, y, b, m, by rw [h1]; rfl, h2, fun z hz m' hm => ?_⟩
          rcases List.mem_cons.1 hz with rfl | hz
          · rw [hx] at hm; cases hm; omega
          · exact h3 z hz m' hm
    · obtain ⟨y, hy, hyn⟩ := h
      rcases List.mem_cons.1 hy with rfl | hy
      · obtain ⟨n, hn⟩ := Option.ne_none_iff_exists'.1 hyn
        refine ⟨[], y, r, n, rfl, hn, fun z hz m' hm => ?_⟩
        rcases List.mem_cons.1 hz with rfl | hz
        · rw [hn] at hm; cases hm; exact Nat.le_refl _
        · exact absurd ⟨z, hz, by rw [hm]; simp⟩ hr
      · exact absurd ⟨y, hy, hyn⟩ hr
/-- nothing is turned in between -/
theorem Lin.still {k : ByteArray} {st : Nat → Bool} {T : Nat} {it : List Itm} (h : Lin k st T it) (hT : 1 ≤ T) {M : Nat} (hm : ∀ y ∈ it, ∀ m', y.2 = some m' → M ≤ m') : ∀ {d : Nat}, T + d ≤ M → sbM st (T + d) = sbM st T
  | 0, _ => rfl
  | d + 1, hd => by
    rw [← h.still hT hm (d := d) (by omega)]
    unfold sbM
    by_cases e : (T + d) % 2 = 0
    · have e1 : (T + (d + 1)) % 2 ≠ 0 := by omega
      rw [if_pos e, if_neg e1]
      have e2 : (T + (d + 1)) / 2 = (T + d) / 2 := by omega
      rw [e2]
      by_cases hf : st ((T + d) / 2) = st ((T + d) / 2 - 1)
      · exact hf
      · obtain ⟨x, hx, hx2⟩ := h.flip ((T + d) / 2) (by omega) (by omega) hf
        have := hm x hx _ hx2
        omega
    · have e1 : (T + (d + 1)) % 2 = 0 := by omega
      rw [if_neg e, if_pos e1]
      congr 1
      omega
theorem Lin.fit {k : ByteArray} {st : Nat → Bool} : ∀ (n : Nat) {T : Nat} {it : List Itm} {S : SetB}, it.length = n → 1 ≤ T → Lin k st T it → S k = sbM st T → Fit (it.map (·.1)) S
  | n, T, it, S, hn, hT, h, hS => by
    by_cases hex : ∃ x ∈ it, x.2 ≠ none
    · obtain ⟨a, x, b, m, rfl, hm, hmin⟩ := least_itm hex
      have hx : x ∈ a ++ x :: b := by simp
      obtain ⟨t1, t2, t3⟩ := h.time x hx m hm
      have hSm : S x.1.key = sbM st m := by
        rw [h.key x hx, hS]
        have := h.still hT hmin (d := m - T) (by omega)
        rw [show T + (m - T) = m by omega] at this
        exact this.symm
      have hsub : ∀ y, y ∈ a ++ b → y ∈ a ++ x :: b := fun y hy => by
        rcases List.mem_append.1 hy with hy | hy <;> simp [hy]
      rw [List.map_append, List.map_cons]
      refine Fit.step (fun d hd => ?_) (fun hr => ?_) ?_
      · rw [← List.map_cons, ← List.map_append] at hd
        obtain ⟨y, hy, rfl⟩ := List.mem_map.1 hd
        unfold ahead
        by_cases hr : 0 ≤ y.1.ret
        · cases hy2 : y.2 with
          | none => have := h.open_ y hy hy2; omega
          | some m' =>
            obtain ⟨_, _, s3⟩ := h.time y hy m' hy2
            have h1 := s3 hr
            have h2 := hmin y hy m' hy2
            have h3 : m / 2 ≤ m' / 2 := Nat.div_le_div_right h2
            rw [Bool.and_eq_false_iff]
            right
            exact decide_eq_false (by omega)
        · rw [decide_eq_false hr]; rfl
      · rw [hSm]
        unfold sbM
        by_cases e : m % 2 = 0
        · rw [if_pos e]
          exact (h.turn x hx (m / 2) (by rw [hm]; congr 1; omega)).2.2 hr
        · rw [if_neg e]
          exact (h.tell x hx (m / 2) (by rw [hm]; congr 1; omega)).2 hr
      · rw [← List.map_append]
        cases n with
        | zero => simp at hn
        | succ n =>
        by_cases e : m % 2 = 0
        · obtain ⟨g1, g2, g3⟩ := h.turn x hx (m / 2) (by rw [hm]; congr 1; omega)
          have hone := h.one
          rw [List.pairwise_append] at hone
          obtain ⟨o1, o2, o3⟩ := hone
          obtain ⟨o4, o5⟩ := List.pairwise_cons.1 o2
          have hxm : x.2 = some (2 * (m / 2)) := by rw [hm]; congr 1; omega
          have hno : ∀ y ∈ a ++ b, y.2 ≠ some (2 * (m / 2)) := fun y hy => by
            rcases List.mem_append.1 hy with hy | hy
            · intro hc; exact o3 y hy x (by simp) _ hc hxm
            · exact o4 y hy _ hxm
          refine Lin.fit n (T := m + 1) (by simp at hn ⊢; omega) (by omega) ⟨fun y hy => h.key y (hsub y hy), fun y hy => h.open_ y (hsub y hy), fun y hy m' hy2 => ?_, fun y hy => h.turn y (hsub y hy), fun y hy => h.tell y (hsub y hy), fun q hq1 hq2 hq3 => ?_, ?_⟩ ?_
          · obtain ⟨_, s2, s3⟩ := h.time y (hsub y hy) m' hy2
            have h2 := hmin y (hsub y hy) m' hy2
            have : m' ≠ m := fun e2 => hno y hy (by rw [hy2]; congr 1; omega)
            exact ⟨by omega, s2, s3⟩
          · obtain ⟨y, hy, hy2⟩ := h.flip q hq1 (by omega) hq3
            refine ⟨y, ?_, hy2⟩
            simp only [List.mem_append, List.mem_cons] at hy ⊢
            rcases hy with hy | rfl | hy
            · exact Or.inl hy
            · rw [hm] at hy2; simp only [Option.some.injEq] at hy2; omega
            · exact Or.inr hy
          · exact List.pairwise_append.2 ⟨o1, o5, fun y hy z hz => o3 y hy z (by simp [hz])⟩
          · unfold up
            rw [if_pos (h.key x hx).symm, hSm]
            unfold sbM
            rw [if_pos e, if_neg (by omega), show (m + 1) / 2 = m / 2 by omega]
            exact g2.symm
        · obtain ⟨g1, g2⟩ := h.tell x hx (m / 2) (by rw [hm]; congr 1; omega)
          have hone := h.one
          rw [List.pairwise_append] at hone
          obtain ⟨o1, o2, o3⟩ := hone
          obtain ⟨o4, o5⟩ := List.pairwise_cons.1 o2
          refine Lin.fit n (T := m) (by simp at hn ⊢; omega) (by omega) ⟨fun y hy => h.key y (hsub y hy), fun y hy => h.open_ y (hsub y hy), fun y hy m' hy2 => ?_, fun y hy => h.turn y (hsub y hy), fun y hy => h.tell y (hsub y hy), fun q hq1 hq2 hq3 => ?_, ?_⟩ ?_
          · obtain ⟨_, s2, s3⟩ := h.time y (hsub y hy) m' hy2
            exact ⟨hmin y (hsub y hy) m' hy2, s2, s3⟩
          · obtain ⟨y, hy, hy2⟩ := h.flip q hq1 (by omega) hq3
            refine ⟨y, ?_, hy2⟩
            simp only [List.mem_append, List.mem_cons] at hy ⊢
            rcases hy with hy | rfl | hy
            · exact Or.inl hy
            · rw [hm] at hy2; simp only [Option.some.injEq] at hy2; omega
            · exact Or.inr hy
          · exact List.pairwise_append.2 ⟨o1, o5, fun y hy z hz => o3 y hy z (by simp [hz])⟩
          · unfold up
            rw [if_pos (h.key x hx).symm, hSm]
            unfold sbM
            rw [if_neg e]
            exact g1.symm
    · refine Fit.all (fun c hc => ?_)
      obtain ⟨y, hy, rfl⟩ := List.mem_map.1 hc
      refine h.open_ y hy ?_
      cases hy2 : y.2 with
      | none => rfl
      | some m => exact absurd ⟨y, hy, by rw [hy2]; simp⟩ hex
end Go.Proofs.Ytmhiolhgofackaa
