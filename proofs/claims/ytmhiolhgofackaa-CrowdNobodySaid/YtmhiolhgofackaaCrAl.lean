/- WHAT A TREE TELLS ALONE (doX) AND WHAT A SET TELLS (doOk, doL): the same -/
import Derived.Test.YtmhiolhgofackaaBsFly
import Derived.Test.YtmhiolhgofackaaOr
namespace Go.Proofs.Ytmhiolhgofackaa
set_option linter.unusedVariables false
set_option linter.unusedSimpArgs false

/-- a tree holds a set's keys -/
def HoldS (x : Hold) (S : SetB) : Prop := ∀ k, S k = (x k).isSome
theorem doX_ok {x : Hold} {S : SetB} (h : HoldS x S) (kind : Int) (k : ByteArray) (v : Int) : (doX x kind k v).2.ok = doOk kind (S k) ∧ (doX x kind k v).2.err = 0 := by
  unfold doX doOk
  rw [h k]
  by_cases k1 : kind = 1
  · rw [if_pos k1, if_pos k1]
    cases x k <;> exact ⟨rfl, rfl⟩
  · rw [if_neg k1, if_neg k1]
    by_cases k2 : kind = 2
    · rw [if_pos k2]
      cases x k <;> exact ⟨rfl, rfl⟩
    · rw [if_neg k2]
      cases x k <;> exact ⟨rfl, rfl⟩
theorem doX_up {x : Hold} {S : SetB} (h : HoldS x S) {kind : Int} (k : ByteArray) (v : Int) {c : Ca} (hk : c.kind = kind) (hc : c.key = k) : HoldS (doX x kind k v).1 (up S c) := by
  intro k'
  unfold up doIs doX
  rw [hk, hc, h k]
  by_cases k1 : kind = 1
  · rw [if_pos k1, if_pos k1]
    by_cases e : k' = k
    · subst e
      rw [if_pos rfl]
      cases hx : x k' with
      | none => simp [Hold.put]
      | some u => simp [hx]
    · rw [if_neg e, h k']
      cases hx : x k with
      | none => simp [Hold.put, e]
      | some u => rfl
  · rw [if_neg k1, if_neg k1]
    by_cases k2 : kind = 2
    · rw [if_pos k2, if_pos k2]
      by_cases e : k' = k
      · subst e
        rw [if_pos rfl]
        cases hx : x k' with
        | none => simp [hx]
        | some u => simp [Hold.put]
      · rw [if_neg e, h k']
        cases hx : x k with
        | none => rfl
        | some u => simp [Hold.put, e]
    · rw [if_neg k2, if_neg k2]
      by_cases e : k' = k
      · subst e
        rw [if_pos rfl]
        cases hx : x k' <;> simp [hx]
      · rw [if_neg e, h k']
        cases hx : x k <;> rfl
theorem doX_do {x : Hold} {set : List ByteArray} (h : HoldS x (inS set)) {kind : Int} (k : ByteArray) (v : Int) {c : Ca} (hk : c.kind = kind) (hc : c.key = k) : HoldS (doX x kind k v).1 (inS (doL set c)) := by
  rw [doL_in]
  exact doX_up h k v hk hc
theorem holdS_nil : HoldS (fun _ => none) (inS []) := fun k => rfl
/-- its keys are the set's -/
theorem HasKeys.set {x : Hold} {l set : List ByteArray} (h : HasKeys x l) (hs : HoldS x (inS set)) : l = set.foldl insS [] := by
  obtain ⟨h3, h4⟩ := foldl_kept set [] List.Pairwise.nil
  refine rise_unique h.1 h3 (fun k => ?_)
  rw [h.2, h4]
  have := hs k
  simp only [List.not_mem_nil, false_or]
  have e : k ∈ set ↔ inS set k = true := by unfold inS; simp
  rw [e, this]
  cases x k <;> simp
end Go.Proofs.Ytmhiolhgofackaa
