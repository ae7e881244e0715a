/- THE LAWS OF hist: do: its contract -/
import Derived.Test.YtmbfcdoemcffpaaHistDo
namespace Go.Proofs.Ytmbfcdoemcffpaa
open Go.RowKit
set_option linter.unusedVariables false
set_option linter.unusedSimpArgs false

def stepH (H : HA) (kind : Int) (ops : List Od) (rev : Int) : HA := if kind = 1 then H.app ops else H.com rev
theorem stepH_ok {H : HA} {n : Nat} (h : HOk H n) {kind rev : Int} {ops : List Od} (ho : ops.length ≤ 8) : HOk (stepH H kind ops rev) (n + 1) := by
  unfold stepH; split
  · exact h.app (Nat.le_trans ho (by decide))
  · exact (h.com rev).mono (by omega)
theorem stepH_later (H : HA) (kind rev : Int) (ops : List Od) : HLater H (stepH H kind ops rev) := by
  unfold stepH; split
  · exact HLater.app H ops
  · exact HLater.com H rev
/-- the document's rows, of which little is asked here -/
structure XOk (rows : List (List Ev)) (n : Nat) : Prop where
  len : rows.length ≤ n
  row : ∀ r ∈ rows, r.length ≤ 20
theorem XOk.nil (n : Nat) : XOk [] n := ⟨Nat.zero_le _, by intro r h; cases h⟩
theorem XOk.mono {rows : List (List Ev)} {n n' : Nat} (h : XOk rows n) (hn : n ≤ n') : XOk rows n' := ⟨Nat.le_trans h.len hn, h.row⟩
theorem XOk.app {rows : List (List Ev)} {n : Nat} (h : XOk rows n) {ops : List Od} (ho : ops.length ≤ 8) : XOk (putR rows (rowOf rows ops)) (n + 1) := by
  have h1 := putR_len rows (rowOf rows ops)
  have h2 := h.len
  refine ⟨by omega, fun r hr => ?_⟩
  unfold putR at hr
  split at hr
  · exact h.row r hr
  · rcases List.mem_append.1 hr with hr | hr
    · exact h.row r hr
    · simp only [List.mem_singleton] at hr
      subst hr
      have := rowOf_len rows ops; omega
theorem XOk.flat {rows : List (List Ev)} {n : Nat} (h : XOk rows n) : rows.flatten.length ≤ 20 * n := by
  have h1 := flat_len rows h.row
  have h2 := h.len
  omega
def DoneH (T : List Nat) (w : World) (p : Nat) (S : List Nat) (n : Nat) (H' : HA) (e : Ending) (w' : World) : Prop :=
  ∃ rv' rows' hor' b S', e = .returned (.tuple #[.agg #[rv', .int .i64 hor'], .bool b]) ∧ RowsF (T ++ S') w' rv' rows' ∧ XOk rows' (n + 1) ∧ Hs w' p S' H' ∧ Fr S w w' ∧ Grow S S' w
theorem Grow.of {S S' : List Nat} {w w0 : World} (h : Grow S S' w) (hs : w0.heap.size ≤ w.heap.size) : Grow S S' w0 := fun k hk => by
  rcases h k hk with h1 | h1
  · exact Or.inl h1
  · exact Or.inr (by omega)
end Go.Proofs.Ytmbfcdoemcffpaa
