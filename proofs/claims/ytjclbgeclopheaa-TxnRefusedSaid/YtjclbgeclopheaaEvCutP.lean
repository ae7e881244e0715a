/- PACKAGE event: same, add, Cut: contracts -/
import Derived.Test.YtjclbgeclopheaaEvCut
import Derived.Test.YtjclbgeclopheaaEvLst
import Derived.Test.YtjclbgeclopheaaPart
namespace Go.Proofs.Ytjclbgeclopheaa
open Go.RowKit
set_option linter.unusedVariables false
set_option linter.unusedSimpArgs false

/-! plainly: the first row, and what comes behind it -/
theorem cutS_app {A B : List (List Ev)} (e : Ev) (hB : B ≠ []) : cutS (A ++ B) e = A ++ cutS B e := by
  obtain ⟨r, hr⟩ : ∃ r, B.getLast? = some r := by
    cases h : B.getLast? with
    | none => exact absurd (List.getLast?_eq_none_iff.1 h) hB
    | some r => exact ⟨r, rfl⟩
  have hAB : (A ++ B).getLast? = some r := by rw [List.getLast?_append, hr]; rfl
  unfold cutS
  rw [hr, hAB]
  dsimp only
  split
  · rw [List.dropLast_append_of_ne_nil hB, List.append_assoc]
  · rw [List.append_assoc]
theorem cutS_ne_nil (B : List (List Ev)) (e : Ev) : cutS B e ≠ [] := by
  unfold cutS
  split
  · simp
  · split <;> simp
theorem foldl_cut_app : ∀ (l : List Ev) (A B : List (List Ev)), B ≠ [] → l.foldl cutS (A ++ B) = A ++ l.foldl cutS B
  | [], A, B, _ => rfl
  | e :: r, A, B, hB => by rw [List.foldl_cons, List.foldl_cons, cutS_app e hB, foldl_cut_app r A _ (cutS_ne_nil B e)]
theorem foldl_same {v : Int} : ∀ (s q : List Ev), q ≠ [] → (∀ x ∈ q, x.rev = v) → (∀ x ∈ s, x.rev = v) → s.foldl cutS [q] = [q ++ s]
  | [], q, _, _, _ => by simp
  | e :: r, q, hq, h1, h2 => by
    have hs : sameRev q e = true := by
      unfold sameRev
      cases h : q.getLast? with
      | none => exact absurd (List.getLast?_eq_none_iff.1 h) hq
      | some p => 
        have hp : p ∈ q := List.mem_of_getLast? h
        simp [h1 p hp, h2 e (by simp)]
    rw [List.foldl_cons]
    have : cutS [q] e = [q ++ [e]] := by unfold cutS; simp [hs]
    rw [this, foldl_same r (q ++ [e]) (by simp) (fun x hx => by rcases List.mem_append.1 hx with hx | hx; exact h1 x hx; simp at hx; subst hx; exact h2 _ (by simp)) (fun x hx => h2 x (List.mem_cons_of_mem _ hx))]
    simp
/-- how many, from the first one on, are of its revision -/
structure SameN (l : List Ev) (h : Ev) (n : Nat) : Prop where
  one : 1 ≤ n
  le : n ≤ l.length
  all : ∀ x ∈ l.take n, x.rev = h.rev
  stop : ∀ y, l[n]? = some y → y.rev ≠ h.rev
theorem cutE_run {l : List Ev} {h : Ev} {n : Nat} (h0 : l[0]? = some h) (hn : SameN l h n) : cutE l = [l.take n] ++ cutE (l.drop n) := by
  have hsplit : l = l.take n ++ l.drop n := (List.take_append_drop n l).symm
  have hne : l.take n ≠ [] := by
    intro e
    have h1 := congrArg List.length e
    rw [List.length_take, Nat.min_eq_left hn.le] at h1
    have h2 := hn.one
    simp at h1; omega
  have h1 : cutE (l.take n) = [l.take n] := by
    obtain ⟨e, s, hes⟩ : ∃ e s, l.take n = e :: s := by
      cases hx : l.take n with
      | nil => exact absurd hx hne
      | cons e s => exact ⟨e, s, rfl⟩
    have hall := hn.all
    rw [hes] at hall ⊢
    show s.foldl cutS (cutS [] e) = _
    have : cutS [] e = [[e]] := rfl
    rw [this, foldl_same (v := h.rev) s [e] (by simp) (fun x hx => hall x (by simp at hx; subst hx; simp)) (fun x hx => hall x (List.mem_cons_of_mem _ hx))]
    rfl
  have h2 : cutE l = (l.drop n).foldl cutS (cutE (l.take n)) := by
    conv => lhs; rw [hsplit]
    unfold cutE; rw [List.foldl_append]
  rw [h2, h1]
  cases hd : l.drop n with
  | nil => rfl
  | cons y s =>
    have hy : l[n]? = some y := by
      have := congrArg (fun z => z[0]?) hd
      simpa using this
    have hne2 := hn.stop y hy
    have hs : sameRev (l.take n) y = false := by
      unfold sameRev
      cases hl : (l.take n).getLast? with
      | none => rfl
      | some p =>
        have hp : p ∈ l.take n := List.mem_of_getLast? hl
        simp only [hn.all p hp, decide_eq_false_iff_not]
        exact fun e => hne2 e.symm
    have hc : cutS [l.take n] y = [l.take n] ++ [[y]] := by unfold cutS; simp [hs]
    rw [List.foldl_cons, hc, foldl_cut_app s _ _ (by simp)]
    rfl
/-- a row more -/
theorem OwnRows.add {wb W W1 w' : World} {v v' u : Value} {vs : List Value} {rows : List (List Ev)} {r : List Ev} (h : OwnRows wb W v vs rows) (hW : wb.heap.size ≤ W.heap.size) (hf : Fr [] W W1) (hu : EvAt W1 u r) (hun : ∀ k, u.ownBlock = some k → W.heap.size ≤ k)
    (h1 : Lies w' 46 1 v' (rows.length + 1) (vs ++ [u])) (h2 : Fr v.ownBlock.toList W1 w') (h3 : ∀ k, v'.ownBlock = some k → v.ownBlock = some k ∨ W1.heap.size ≤ k) : OwnRows wb w' v' (vs ++ [u]) (rows ++ [r]) := by
  have hl := h.len
  have get : ∀ (i : Nat) z, (vs ++ [u])[i]? = some z → vs[i]? = some z ∨ (i = vs.length ∧ z = u) := by
    intro i z hz
    by_cases hi : i < vs.length
    · rw [List.getElem?_append_left hi] at hz; exact Or.inl hz
    · rw [List.getElem?_append_right (by omega)] at hz
      obtain ⟨h4, h5⟩ := List.getElem?_eq_some_iff.1 hz
      simp at h4
      have : i - vs.length = 0 := by omega
      simp [this] at h5
      exact Or.inr ⟨by omega, h5.symm⟩
  have hlt : ∀ (i : Nat) z k, vs[i]? = some z → z.ownBlock = some k → k < W.heap.size := by
    intro i z k hz hk
    have hi : i < rows.length := by rw [← hl]; exact (List.getElem?_eq_some_iff.1 hz).1
    exact (h.row i z _ hz (List.getElem?_eq_getElem hi)).lt k hk
  have hvlt : ∀ k, v.ownBlock = some k → k < W.heap.size := h.lies.lt
  have hult : ∀ k, u.ownBlock = some k → k < W1.heap.size := hu.lt
  have hfs := hf.size
  refine ⟨by rw [List.length_append]; exact h1, ?_, ?_, ?_, ?_⟩
  · intro i z q hz hq
    rcases get i z hz with hz2 | ⟨rfl, rfl⟩
    · have hi : i < rows.length := by rw [← hl]; exact (List.getElem?_eq_some_iff.1 hz2).1
      rw [List.getElem?_append_left hi] at hq
      refine (LAt.keep0 (h.row i z q hz2 hq) hf).keep h2 (fun k hk hm => ?_)
      exact (h.far i z k hz2 hk).2 (by simpa using hm)
    · rw [hl, List.getElem?_append_right (Nat.le_refl _)] at hq
      simp at hq
      subst hq
      refine hu.keep h2 (fun k hk hm => ?_)
      have := hun k hk
      have := hvlt k (by simpa using hm)
      omega
  · intro k hk
    rcases h3 k hk with h4 | h4
    · exact h.new k h4
    · omega
  · intro i z k hz hk
    rcases get i z hz with hz2 | ⟨rfl, rfl⟩
    · refine ⟨(h.far i z k hz2 hk).1, fun hv => ?_⟩
      rcases h3 k hv with h4 | h4
      · exact (h.far i z k hz2 hk).2 h4
      · have := hlt i z k hz2 hk; omega
    · refine ⟨by have := hun k hk; omega, fun hv => ?_⟩
      rcases h3 k hv with h4 | h4
      · have := hvlt k h4; have := hun k hk; omega
      · have := hult k hk; omega
  · intro i j z z' k hz hz' hij hk
    rcases get i z hz with hz2 | ⟨rfl, rfl⟩
    · rcases get j z' hz' with hz3 | ⟨rfl, rfl⟩
      · exact h.apart i j z z' k hz2 hz3 hij hk
      · intro hk'
        have := hlt i z k hz2 hk; have := hun k hk'; omega
    · rcases get j z' hz' with hz3 | ⟨rfl, rfl⟩
      · intro hk'
        have := hlt j z' k hz3 hk'; have := hun k hk; omega
      · exact absurd rfl hij

def lenV : Value → Nat
  | .slice _ n _ => n
  | _ => 0
end Go.Proofs.Ytjclbgeclopheaa
