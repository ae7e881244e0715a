/- PACKAGE hist: forget: contract
PACKAGE hist: Compact: contract -/
import Derived.Test.YtjclbgeclopheaaHistOne
import Derived.Test.YtjclbgeclopheaaEvLst
namespace Go.Proofs.Ytjclbgeclopheaa
open Go.RowKit Go.Maps
set_option linter.unusedVariables false
set_option linter.unusedSimpArgs false

theorem not_map {κ : Type} {P : Program} {k : TypeId} {K : KeyD κ} {ok : Value → Bool} {w : World} {b n : Nat} {M : κ → Option Value} {v : Value} {l : List Ev} (h : EvAt w v l) (hm : MapG P k K ok w b n M) : ∀ g, v.ownBlock = some g → g ≠ b := by
  rintro g hg rfl
  obtain ⟨cur, hc⟩ := at_tag h hg
  obtain ⟨es, c, hd⟩ := hm.isMap
  rw [hd] at hc; cases hc
/-- what forget leaves -/
def Forgot (w : World) (p : Nat) (S : List Nat) (rows : List (List Ev)) (hor : Nat) (V : ByteArray → List Ev) (rm km n1 n2 : Nat) (R : Int → Option Value) (k : ByteArray) (w' : World) : Prop :=
  ∃ S' n2' M', HsAt w' p S' rows hor (fun z => if z = k then fromV (V k) hor else V z) rm km n1 n2' R M' ∧ n2' ≤ n2 + 1 ∧ Fr S w w' ∧ Grow S S' w
end Go.Proofs.Ytjclbgeclopheaa
namespace Go.Proofs.Ytjclbgeclopheaa
open Go.RowKit Go.Maps
set_option linter.unusedVariables false
set_option linter.unusedSimpArgs false

/-! the keys of a list are raised -/
def VJ (rows : List (List Ev)) (hor c : Nat) (l : List Ev) (k : ByteArray) : List Ev := if l.any (fun e => decide (e.key = k)) = true then fromV (versN rows hor k) c else versN rows hor k
theorem take_one {α : Type} {m : List α} {j : Nat} {x : α} (hx : m[j]? = some x) : m.take (j + 1) = m.take j ++ [x] := by
  rw [List.take_add_one, hx]; rfl
theorem VJ.nil (rows : List (List Ev)) (hor c : Nat) (k : ByteArray) : VJ rows hor c [] k = versN rows hor k := by unfold VJ; simp
theorem VJ.step {rows : List (List Ev)} {hor c : Nat} {l : List Ev} {j : Nat} {x : Ev} (hx : l[j]? = some x) : (fun z => if z = x.key then fromV (VJ rows hor c (l.take j) x.key) c else VJ rows hor c (l.take j) z) = VJ rows hor c (l.take (j + 1)) := by
  funext z
  have h1 : (l.take (j + 1)).any (fun e => decide (e.key = z)) = ((l.take j).any (fun e => decide (e.key = z)) || decide (x.key = z)) := by rw [take_one hx, List.any_append]; simp
  by_cases hz : z = x.key
  · subst hz
    rw [if_pos rfl]
    unfold VJ
    rw [h1]
    rw [if_pos (show ((l.take j).any (fun e => decide (e.key = x.key)) || decide (x.key = x.key)) = true by simp)]
    split
    · rw [fromV_fromV (Int.le_refl _)]
    · rfl
  · rw [if_neg hz]
    unfold VJ
    rw [h1, show decide (x.key = z) = false by simpa using fun e => hz e.symm, Bool.or_false]
theorem VJ.len (rows : List (List Ev)) (hor c : Nat) (l : List Ev) (k : ByteArray) : (VJ rows hor c l k).length ≤ rows.flatten.length := by
  unfold VJ
  split
  · exact Nat.le_trans (fromV_len _ _) (vers_len _ _ _)
  · exact vers_len _ _ _
theorem VJ.all {rows : List (List Ev)} {hor c : Nat} (h : HWf rows) (hc : hor ≤ c) (k : ByteArray) : versN rows c k = VJ rows hor c (lastE (goneN rows hor c)) k := by
  unfold VJ
  split
  · exact (vers_raise hc k).symm
  · rename_i hn
    refine (vers_stay h hc fun e he hk => hn ?_).symm
    cases hl : lastOf k (goneN rows hor c) with
    | none => exact absurd hk (lastOf_none.1 hl e he)
    | some y =>
      have hy := lastOf_some hl
      rw [List.any_eq_true]
      exact ⟨y, (mem_lastE _ _).2 (by rw [hy.2]; exact hl), by simpa using hy.2⟩
section
variable {w w' w2 : World} {p : Nat} {S : List Nat} {rows : List (List Ev)} {hor : Nat} {V : ByteArray → List Ev} {rm km n1 n2 : Nat} {R : Int → Option Value} {M : ByteArray → Option Value}
/-- the horizon is one higher; other blocks may change -/
theorem HsAt.rdelT (h : HsAt w p S rows hor V rm km n1 n2 R M) {m1 : Nat} {T : List Nat} (hf : Fr T w w2) (hT : ∀ k ∈ T, k = p ∨ k = rm ∨ k ∉ S)
    (hb : w2.heap[p]? = some (.cells #[.int .i64 ((hor : Int) + 1), .int .i64 rows.length, .map (some rm), .map (some km)] 77 (0, 0)))
    (hm : MapG Try.prog 3 intD isSl w2 rm m1 (fun z => if z = (hor : Int) + 1 then none else R z)) :
    HsAt w2 p S rows (hor + 1) V rm km m1 n2 (fun z => if z = (hor : Int) + 1 then none else R z) M := by
  have out : ∀ g, g ∈ S → g ≠ p → g ≠ rm → g ∉ T := fun g h1 h2 h3 hm => by
    rcases hT g hm with h4 | h4 | h4
    · exact h2 h4
    · exact h3 h4
    · exact h4 h1
  have sub : ∀ e v, (if e = (hor : Int) + 1 then none else R e) = some v → e ≠ (hor : Int) + 1 ∧ R e = some v := fun e v he => by
    by_cases hee : e = (hor : Int) + 1
    · rw [if_pos hee] at he; cases he
    · rw [if_neg hee] at he; exact ⟨hee, he⟩
  refine ⟨by rw [hb]; simp, hm, h.kmap.keep hf (out _ h.ks h.kp h.ne.symm), ?_, ?_, h.kno, fun k v hk => (h.kyes k v hk).keep hf (fun g hg => out g (h.kS k v g hk hg) (h.kfar hk hg).1 (h.kfar hk hg).2.1), h.apart, ?_, ?_, h.kS, h.ps, h.rs, h.ks, h.ne, fun k hk => Nat.lt_of_lt_of_le (h.lt k hk) hf.size⟩
  · intro e v he
    obtain ⟨g1, g2⟩ := sub e v he
    obtain ⟨i, r, h1, h2, h3, h4⟩ := h.ronly e v g2
    exact ⟨i, r, h1, by omega, h3, h4.keep hf (fun g hg => out g (h.rS e v g g2 hg) (h.rfar g2 hg).1 (h.rfar g2 hg).2.1)⟩
  · intro i h1 h2
    rw [if_neg (by omega)]
    exact h.rhas i (by omega) h2
  · intro e v k v' g he hk hg hg'
    exact h.cross e v k v' g (sub e v he).2 hk hg hg'
  · intro e v g he hg
    exact h.rS e v g (sub e v he).2 hg
end

end Go.Proofs.Ytjclbgeclopheaa
