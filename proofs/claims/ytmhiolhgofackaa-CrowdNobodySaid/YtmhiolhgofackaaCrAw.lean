/- TWO THREADS THAT INSERT ONE KEY, PICKED BY TURNS: what there is behind each pick, plainly -/
import Derived.Test.YtmhiolhgofackaaBsThr
namespace Go.Proofs.Ytmhiolhgofackaa
open Go.RowKit
set_option linter.unusedVariables false
set_option linter.unusedSimpArgs false

def keyA : ByteArray := ⟨#[97]⟩
abbrev TwoS := Tr × List (Cl × Option Stp)
def twoStep (i : Nat) (x : TwoS) : TwoS :=
  match x.2[i]? with
  | some (c, some s) => ((stepP x.1 c s).1, x.2.set i (stepP x.1 c s).2)
  | _ => x
def twoN : Nat → TwoS
  | 0 => (Tr.new ⟨[], 0⟩, [(Cl.new .ins keyA 1, some .beg), (Cl.new .ins keyA 2, some .beg)])
  | n + 1 => twoStep (n % 2) (twoN n)
def TwoQ (j : Nat) : PlQ := fun t l => (t, l) = twoN j
def twoOpen (n : Nat) : List Bool := (twoN n).2.map (fun x => x.2.isSome)
set_option maxRecDepth 100000 in
theorem two_24 : twoOpen 24 = [false, false] := by kernel_rfl
theorem two_len : ∀ n, (twoN n).2.length = 2
  | 0 => rfl
  | n + 1 => by
    show (twoStep (n % 2) (twoN n)).2.length = 2
    unfold twoStep
    split
    · rw [List.length_set]; exact two_len n
    · exact two_len n
/-- done, it stays done -/
theorem two_stays {n : Nat} (h : twoOpen n = [false, false]) : twoN (n + 1) = twoN n := by
  show twoStep (n % 2) (twoN n) = twoN n
  unfold twoStep
  split
  · rename_i c s hc
    have hm : (twoOpen n)[n % 2]? = some true := by unfold twoOpen; rw [List.getElem?_map, hc]; rfl
    rw [h] at hm
    have : n % 2 = 0 ∨ n % 2 = 1 := by omega
    rcases this with e | e <;> rw [e] at hm <;> simp at hm
  · rfl
theorem two_done : ∀ k, twoOpen (24 + k) = [false, false]
  | 0 => two_24
  | k + 1 => by
    have ih := two_done k
    have := two_stays ih
    unfold twoOpen at ih ⊢
    rw [show 24 + (k + 1) = (24 + k) + 1 from rfl, this]
    exact ih
theorem two_begin {t : Tr} {l : List (Cl × Option Stp)} (h : addQ (addQ (fun t' l => t' = Tr.new ⟨[], 0⟩ ∧ l = []) (fun _ => (Cl.new .ins keyA 1, some .beg))) (fun _ => (Cl.new .ins keyA 2, some .beg)) t l) : TwoQ 0 t l := by
  obtain ⟨l1, ⟨l2, ⟨rfl, rfl⟩, rfl⟩, rfl⟩ := h
  rfl
theorem two_step {n : Nat} {b : Bool} {t : Tr} {l : List (Cl × Option Stp)} (h : stepQ (TwoQ n) (n % 2) b t l) : TwoQ (n + 1) t l := by
  obtain ⟨t1, l1, c, s, hq, hl, rfl, rfl, _⟩ := h
  unfold TwoQ at hq ⊢
  have e1 : t1 = (twoN n).1 := by rw [← hq]
  have e2 : l1 = (twoN n).2 := by rw [← hq]
  show _ = twoStep (n % 2) (twoN n)
  unfold twoStep
  rw [← e2, hl, ← e1]
theorem two_rest {n : Nat} {t : Tr} {l : List (Cl × Option Stp)} {c : Cl} (h : TwoQ n t l) (hl : l[n % 2]? = some (c, none)) : TwoQ (n + 1) t l := by
  unfold TwoQ at h ⊢
  have e2 : l = (twoN n).2 := by rw [← h]
  rw [h]
  show _ = twoStep (n % 2) (twoN n)
  unfold twoStep
  rw [← e2, hl]
/-- behind 24 picks both are answered -/
theorem two_told {n k : Nat} {w0 w : World} {tb mb now : Nat} {ps : List Nat} {K : List (Nat × Obj)} {S0 : SetB} {cas : List Ca} (h : ThrQ (TwoQ (24 + k)) w0 w tb mb ps n K now S0 cas) : cas.length = 2 ∧ ∀ c ∈ cas, 0 ≤ c.ret := by
  obtain ⟨t, l, hq, hl, hc⟩ := h.look
  have e2 : l = (twoN (24 + k)).2 := by unfold TwoQ at hq; rw [← hq]
  refine ⟨by rw [← hl, e2]; exact two_len _, fun c hm => ?_⟩
  obtain ⟨i, hi⟩ := List.mem_iff_getElem?.1 hm
  obtain ⟨cl, o, h1, h2⟩ := hc i c hi
  have h3 : (twoOpen (24 + k))[i]? = some o.isSome := by unfold twoOpen; rw [← e2, List.getElem?_map, h1]; rfl
  rw [two_done] at h3
  have ho : o = none := by
    have hi2 := (List.getElem?_eq_some_iff.1 h3).1
    simp at hi2
    have : i = 0 ∨ i = 1 := by omega
    rcases this with rfl | rfl <;> simp at h3 <;> exact h3
  by_cases hr : c.ret < 0
  · exact absurd ho (h2.1 hr)
  · omega
end Go.Proofs.Ytmhiolhgofackaa
