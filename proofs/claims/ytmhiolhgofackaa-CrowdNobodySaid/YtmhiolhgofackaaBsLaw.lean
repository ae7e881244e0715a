/- ARGUMENTS OF THE LAWS OF bst, opened -/
import Derived.Test.YtmhiolhgofackaaBsMine
import Derived.Test.YtmhiolhgofackaaLaw
import Derived.Lib.SmallJoins
namespace Go.Proofs.Ytmhiolhgofackaa
open Go.ChangeShapes Go.WideShapes Go.ChangeAt Go.RowKit Go.Deep
set_option linter.unusedVariables false
set_option linter.unusedSimpArgs false

structure De where
  kind : Int
  key : ByteArray
  val : Int
def De.cells (x : De) : List Value := [.int .i64 x.kind, .string x.key, .int .u64 x.val]
def De.agg (x : De) : Value := .agg #[.int .i64 x.kind, .string x.key, .int .u64 x.val]
def DeIn (w : World) (v : Value) (l : List De) : Prop := LIn De.cells 3 w v l
theorem DeIn.here {w : World} {v : Value} {l : List De} (h : DeIn w v l) (hn : 0 < l.length) : ∃ g off c, v = .slice (some ⟨g, off, none⟩) l.length c ∧ g < w.heap.size ∧ l.length ≤ c ∧ ∀ i x, l[i]? = some x → w.cell? ⟨g, off + i * 3, none⟩ = some (.int .i64 x.kind) ∧ w.cell? ⟨g, off + i * 3 + 1, none⟩ = some (.string x.key) ∧ w.cell? ⟨g, off + i * 3 + 2, none⟩ = some (.int .u64 x.val) := by
  obtain ⟨g, off, c, hv, h1, h2, h3⟩ := LIn.here h hn
  refine ⟨g, off, c, hv, h1, h2, fun i x hx => ?_⟩
  have q := h3 i x hx
  have e0 := q 0 (by decide)
  have e1 := q 1 (by decide)
  have e2 := q 2 (by decide)
  rw [← Nat.add_assoc] at e0 e1 e2
  exact ⟨e0, e1, e2⟩
/-- a row that is read, by its block -/
def RowK {α : Type} (cs : α → List Value) (sz : Nat) (K : List (Nat × Obj)) (v : Value) (l : List α) : Prop := ∀ W : World, (∀ p ∈ K, W.heap[p.1]? = some p.2) → LIn cs sz W v l
theorem RowK.nil {α : Type} (cs : α → List Value) (sz : Nat) (K : List (Nat × Obj)) : RowK cs sz K (.slice none 0 0) [] := fun W _ => LIn.nil W
theorem RowK.mono {α : Type} {cs : α → List Value} {sz : Nat} {K K' : List (Nat × Obj)} {v : Value} {l : List α} (h : RowK cs sz K v l) (hs : ∀ p ∈ K, p ∈ K') : RowK cs sz K' v l := fun W hW => h W (fun p hp => hW p (hs p hp))
theorem RowK.of {α : Type} {cs : α → List Value} {sz : Nat} {w : World} {v : Value} {l : List α} (h : LIn cs sz w v l) : ∃ K, RowK cs sz K v l ∧ ∀ p ∈ K, w.heap[p.1]? = some p.2 ∧ v.ownBlock = some p.1 := by
  by_cases hn : 0 < l.length
  · obtain ⟨g, off, c, rfl, h1, h2, h3⟩ := h.here hn
    obtain ⟨_, _, hv, q2, q3, _⟩ := h
    simp only [Value.slice.injEq, true_and] at hv
    refine ⟨[(g, w.heap[g])], fun W hW => ?_, fun p hp => ?_⟩
    · have hb := hW _ (by simp : (g, w.heap[g]) ∈ _)
      refine ⟨some ⟨g, off, none⟩, c, rfl, h2, by rw [hv.2]; exact q3, fun _ => ⟨g, off, rfl, lt_of_block hb, fun i x hx j hj => ?_⟩⟩
      rw [← h3 i x hx j hj]
      have hg : w.heap[g]? = some w.heap[g] := Array.getElem?_eq_getElem h1
      unfold World.cell?
      dsimp only at hb ⊢
      rw [hb, hg]
    · simp only [List.mem_singleton] at hp
      subst hp
      exact ⟨Array.getElem?_eq_getElem h1, rfl⟩
  · obtain ⟨a, c, hv, q2, q3, _⟩ := h
    exact ⟨[], fun W _ => ⟨a, c, hv, q2, q3, fun h => absurd h hn⟩, by simp⟩
/-- a row that is new stays -/
theorem Mine.row {α : Type} {cs : α → List Value} {sz : Nat} {w0 W w : World} {tb mb : Nat} {x : Hold} {n : Nat} {K : List (Nat × Obj)} {v : Value} {l : List α} (h : Mine w0 W tb mb x n K) (hf : Fr [] W w) (hv : LIn cs sz w v l) (hn : ∀ k, v.ownBlock = some k → W.heap.size ≤ k) : ∃ K', RowK cs sz K' v l ∧ Mine w0 w tb mb x n (K' ++ K) := by
  obtain ⟨K', h1, h2⟩ := RowK.of hv
  refine ⟨K', h1, ?_⟩
  obtain ⟨A, k1, k2, k3, k4, k5, k6⟩ := h
  refine ⟨A, k1, k2, k3.keep0 hf, k4.trans hf (by simp), k5, fun p hp => ?_⟩
  rcases List.mem_append.1 hp with hp | hp
  · obtain ⟨a, b⟩ := h2 p hp
    refine ⟨a, fun hm => ?_⟩
    have h3 := hn _ b
    have h4 := k3.lt _ hm
    omega
  · exact ⟨hf.keep (k6 p hp).1 (by simp), (k6 p hp).2⟩
theorem bool_cells : Try.prog.cellsOf 4 = 1 := by kernel_rfl
def boCb (b : Bool) : List Value := [.bool b]
def BoInb (w : World) (v : Value) (l : List Bool) : Prop := LIn boCb 1 w v l
section
variable {H : Type} {enc : TypeId × Value → H} {w : World} {base : Nat} {spare : Nat → Bool} {held : Bool}
theorem ar2 {α : Type} {cs : Array α} (h : cs.size = 2) : ∃ c0 c1, cs = #[c0, c1] := by
  obtain ⟨l⟩ := cs
  match l, h with
  | [a, b], _ => exact ⟨a, b, rfl⟩
end
end Go.Proofs.Ytmhiolhgofackaa
