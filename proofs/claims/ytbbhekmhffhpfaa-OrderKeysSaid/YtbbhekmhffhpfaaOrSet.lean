/- A ROW OF CALLS OF ONE'S OWN: A FIELD IS STORED; sets that lie elsewhere -/
import Derived.Test.YtbbhekmhffhpfaaOrMade
namespace Go.Proofs.Ytbbhekmhffhpfaa
open Go.RowKit
set_option linter.unusedVariables false
set_option linter.unusedSimpArgs false

theorem allC_set {α : Type} {cs : α → List Value} {sz : Nat} (hc : ∀ x, (cs x).length = sz) {o : List α} {i q : Nat} {x x' : α} {u : Value} (hx : o[i]? = some x) (hq : q < sz) (hx' : cs x' = (cs x).set q u) :
    allC cs (o.set i x') = (allC cs o).set (i * sz + q) u := by
  have hi := (List.getElem?_eq_some_iff.1 hx).1
  apply List.ext_getElem?
  intro m
  by_cases hm : m < o.length * sz
  · have hsz : 0 < sz := by omega
    have hd : m / sz < o.length := Nat.div_lt_of_lt_mul (by rw [Nat.mul_comm]; exact hm)
    have hr : m % sz < sz := Nat.mod_lt _ hsz
    have he : m / sz * sz + m % sz = m := by rw [Nat.mul_comm]; exact Nat.div_add_mod m sz
    have hy : o[m / sz]? = some o[m / sz] := List.getElem?_eq_getElem hd
    have h2 := allC_at hc o _ _ hy _ hr
    rw [he] at h2
    rw [List.getElem?_set, allC_len hc]
    by_cases e : i = m / sz
    · have hs : (o.set i x')[m / sz]? = some x' := by rw [List.getElem?_set, if_pos e, if_pos hi]
      have h1 := allC_at hc (o.set i x') _ _ hs _ hr
      rw [he] at h1
      rw [h1, hx', List.getElem?_set, hc]
      have hxx : o[m / sz] = x := by
        have := hx; rw [e, hy] at this; exact Option.some.inj this
      by_cases eq : q = m % sz
      · rw [if_pos eq, if_pos hq, if_pos (by rw [e, eq]; exact he), if_pos (by rw [e, eq, he]; exact hm)]
      · rw [if_neg eq, if_neg (by intro h; apply eq; have h9 : i * sz + q = m / sz * sz + m % sz := h.trans he.symm; rw [e] at h9; omega), h2, hxx]
    · have hs : (o.set i x')[m / sz]? = some o[m / sz] := by rw [List.getElem?_set, if_neg e, hy]
      have h1 := allC_at hc (o.set i x') _ _ hs _ hr
      rw [he] at h1
      rw [h1, if_neg ?_, h2]
      intro h
      apply e
      rw [← h]
      have h5 := Nat.add_mul_div_right q i hsz
      rw [Nat.add_comm, h5, Nat.div_eq_of_lt hq, Nat.zero_add]
  · rw [List.getElem?_eq_none (by rw [allC_len hc, List.length_set]; omega), List.getElem?_eq_none (by rw [List.length_set, allC_len hc]; omega)]
/-- a field of an element is stored -/
theorem CaOut.set {wb wr : World} {g off c : Nat} {o : List Ca} {i q : Nat} {x x' : Ca} {u : Value} (h : CaOut wb wr (.slice (some ⟨g, off, none⟩) o.length c) o) (hx : o[i]? = some x) (hq : q < 5) (hx' : x'.cells = x.cells.set q u) :
    CaOut wb (wr.setCell ⟨g, off + i * 5 + q, none⟩ u) (.slice (some ⟨g, off, none⟩) o.length c) (o.set i x') := by
  refine ⟨?_, h.new⟩
  have h1 := Lies.set h.lies (i * 5 + q) u
  rw [← Nat.add_assoc] at h1
  unfold LAt
  rw [allC_set Ca.clen hx hq hx', List.length_set]
  exact h1
theorem CaOut.setN {wb wr : World} {g off c n : Nat} {o : List Ca} {i q : Nat} {x x' : Ca} {u : Value} (h : CaOut wb wr (.slice (some ⟨g, off, none⟩) n c) o) (hn : o.length = n) (hx : o[i]? = some x) (hq : q < 5) (hx' : x'.cells = x.cells.set q u) :
    CaOut wb (wr.setCell ⟨g, off + i * 5 + q, none⟩ u) (.slice (some ⟨g, off, none⟩) n c) (o.set i x') := by
  subst hn
  exact h.set hx hq hx'
theorem CaOut.cellN {wb wr : World} {g off c n : Nat} {o : List Ca} {i : Nat} {x : Ca} (h : CaOut wb wr (.slice (some ⟨g, off, none⟩) n c) o) (hx : o[i]? = some x) (q : Nat) (hq : q < 5) (u : Value) (hu : x.cells[q]? = some u) :
    wr.cell? ⟨g, off + i * 5 + q, none⟩ = some u ∧ wr.frozen? ⟨g, off + i * 5 + q, none⟩ = false ∧ g < wr.heap.size := by
  obtain ⟨g', off', c', hv, hg, _, hat⟩ := LAt.here h.lies Ca.clen (by have := (List.getElem?_eq_some_iff.1 hx).1; omega)
  simp only [Value.slice.injEq, Option.some.injEq, Addr.mk.injEq, and_true, true_and] at hv
  obtain ⟨⟨rfl, rfl⟩, _, _⟩ := hv
  have h1 := hat i x hx q hq
  rw [hu, ← Nat.add_assoc] at h1
  exact ⟨h1.1, h1.2, hg⟩
/-- a set that lies elsewhere than v -/
def SsFar (w : World) (v sv : Value) (s : List ByteArray) : Prop := SsIn w sv s ∧ (0 < s.length → ∀ k, sv.ownBlock = some k → v.ownBlock ≠ some k)
theorem SsFar.keep {w w' : World} {v sv : Value} {s : List ByteArray} (h : SsFar w v sv s) (hf : Fr v.ownBlock.toList w w') : SsFar w' v sv s := by
  refine ⟨?_, h.2⟩
  obtain ⟨⟨a, c, h1, h2, h3, h4⟩, h5⟩ := h
  refine ⟨a, c, h1, h2, h3, fun hl => ?_⟩
  obtain ⟨g, off, h6, h7, h8⟩ := h4 hl
  have hg : g ∉ v.ownBlock.toList := by
    intro hm
    exact h5 hl g (by rw [h1, h6]; rfl) (by simpa using hm)
  refine ⟨g, off, h6, Nat.lt_of_lt_of_le h7 hf.size, fun i x hx j hj => ?_⟩
  have h9 := h8 i x hx j hj
  cases hcc : (strC x)[j]? with
  | some y => rw [hcc] at h9; exact hf.cell h9 hg
  | none =>
    rw [hcc] at h9
    rw [← h9]
    unfold World.cell?
    rw [hf.block g h7 hg]
theorem SsFar.keep0 {w w' : World} {v sv : Value} {s : List ByteArray} (h : SsFar w v sv s) (hf : Fr [] w w') : SsFar w' v sv s := ⟨LIn.keep0 h.1 hf, h.2⟩
/-- one that lay there before v was made -/
theorem SsFar.old {w w' : World} {v sv : Value} {s : List ByteArray} (h : SsIn w sv s) (hf : Fr [] w w') (hv : ∀ k, v.ownBlock = some k → w.heap.size ≤ k) : SsFar w' v sv s := by
  refine ⟨LIn.keep0 h hf, fun hl k hk he => ?_⟩
  obtain ⟨a, c, h1, _, _, h4⟩ := h
  obtain ⟨g, off, h6, h7, _⟩ := h4 hl
  rw [h1, h6] at hk
  simp only [Value.ownBlock, Option.some.injEq] at hk
  have := hv k he
  omega
/-- one that Do told -/
theorem SsFar.did {w w' : World} {v sv sv' : Value} {s s' : List ByteArray} (h : SsFar w v sv s) (hs : SsIn w' sv' s') (hlt : ∀ k, v.ownBlock = some k → k < w.heap.size) (hn : sv' = sv ∨ ∀ k, sv'.ownBlock = some k → w.heap.size ≤ k) : SsFar w' v sv' s' := by
  refine ⟨hs, fun hl k hk he => ?_⟩
  rcases hn with rfl | hn
  · obtain ⟨a, c, h1, _⟩ := h.1
    obtain ⟨a', c', h1', _⟩ := hs
    rw [h1] at h1'
    simp only [Value.slice.injEq] at h1'
    exact h.2 (by omega) k hk he
  · have := hn k hk
    have := hlt k he
    omega
end Go.Proofs.Ytbbhekmhffhpfaa
