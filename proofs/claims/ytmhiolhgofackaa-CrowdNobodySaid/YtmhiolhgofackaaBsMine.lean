/- PACKAGE bst: a tree of a law's own, by what it holds; New, Insert, Delete, Find, Keys, and a Seek alone -/
import Derived.Test.YtmhiolhgofackaaBsRef
namespace Go.Proofs.Ytmhiolhgofackaa
open Go.RowKit
set_option linter.unusedVariables false
set_option linter.unusedSimpArgs false

/-- a tree made behind w0; blocks that stay -/
def Mine (w0 w : World) (tb mb : Nat) (x : Hold) (n : Nat) (K : List (Nat × Obj)) : Prop :=
  ∃ A, A.tb = tb ∧ A.mb = mb ∧ BT w A x n ∧ Fr [] w0 w ∧ (∀ y ∈ A.foot, w0.heap.size ≤ y) ∧ ∀ p ∈ K, w.heap[p.1]? = some p.2 ∧ p.1 ∉ A.foot
section
variable {w0 w w' : World} {tb mb : Nat} {x : Hold} {n : Nat} {K : List (Nat × Obj)}
theorem Mine.keep0 (h : Mine w0 w tb mb x n K) (hf : Fr [] w w') : Mine w0 w' tb mb x n K := by
  obtain ⟨A, h1, h2, h3, h4, h5, h6⟩ := h
  exact ⟨A, h1, h2, h3.keep0 hf, h4.trans hf (by simp), h5, fun p hp => ⟨hf.keep (h6 p hp).1 (by simp), (h6 p hp).2⟩⟩
theorem BT.lt {A : TA} (h : BT w A x n) : ∀ y ∈ A.foot, y < w.heap.size := by
  obtain ⟨t, L, hT, _⟩ := h
  exact hT.toTreeB.lt
theorem Mine.block (h : Mine w0 w tb mb x n K) {b : Nat} {o : Obj} (hb : w.heap[b]? = some o) (hn : ∀ A, BT w A x n → A.tb = tb → (∀ y ∈ A.foot, w0.heap.size ≤ y) → b ∉ A.foot) : Mine w0 w tb mb x n ((b, o) :: K) := by
  obtain ⟨A, h1, h2, h3, h4, h5, h6⟩ := h
  refine ⟨A, h1, h2, h3, h4, h5, fun p hp => ?_⟩
  rcases List.mem_cons.1 hp with rfl | hp
  · exact ⟨hb, hn A h3 h1 h5⟩
  · exact h6 p hp
theorem Mine.alloc (h : Mine w0 w tb mb x n K) (c : Array Value) (T : TypeId) : Mine w0 (w.alloc (.cells c T)) tb mb x n ((w.heap.size, .cells c T (0, 0)) :: K) := by
  obtain ⟨A, h1, h2, h3, h4, h5, h6⟩ := h
  have hf : Fr [] w (w.alloc (.cells c T)) := (Fr.refl [] w).alloc _
  refine ⟨A, h1, h2, h3.keep0 hf, h4.trans hf (by simp), h5, fun p hp => ?_⟩
  rcases List.mem_cons.1 hp with rfl | hp
  · exact ⟨new_block w _, fun hm => Nat.lt_irrefl _ (h3.lt _ hm)⟩
  · exact ⟨hf.keep (h6 p hp).1 (by simp), (h6 p hp).2⟩
theorem Mine.at (h : Mine w0 w tb mb x n K) {b : Nat} {o : Obj} (hm : (b, o) ∈ K) : w.heap[b]? = some o := by
  obtain ⟨A, _, _, _, _, _, h6⟩ := h
  exact (h6 _ hm).1
theorem Mine.fr (h : Mine w0 w tb mb x n K) : Fr [] w0 w := by
  obtain ⟨A, _, _, _, h4, _⟩ := h
  exact h4
theorem Mine.sub (h : Mine w0 w tb mb x n K) {K' : List (Nat × Obj)} (hs : ∀ p ∈ K', p ∈ K) : Mine w0 w tb mb x n K' := by
  obtain ⟨A, h1, h2, h3, h4, h5, h6⟩ := h
  exact ⟨A, h1, h2, h3, h4, h5, fun p hp => h6 p (hs p hp)⟩
end
/-- what is left of a tree that was changed -/
theorem mine_next {w0 w w' : World} {A A' : TA} {x x' : Hold} {n n' : Nat} {K : List (Nat × Obj)} (h3 : BT w A x n) (h4 : Fr [] w0 w) (h5 : ∀ y ∈ A.foot, w0.heap.size ≤ y) (h6 : ∀ p ∈ K, w.heap[p.1]? = some p.2 ∧ p.1 ∉ A.foot)
    (k1 : BT w' A' x' n') (ktb : A'.tb = A.tb) (kmb : A'.mb = A.mb) (k3 : Fr A.foot w w') (k4 : ∀ y ∈ A'.foot, y ∈ A.foot ∨ w.heap.size ≤ y) : Mine w0 w' A.tb A.mb x' n' K := by
  refine ⟨A', ktb, kmb, k1, h4.trans k3 (fun y hy => Or.inr (h5 y hy)), fun y hy => (k4 y hy).elim (h5 y) (fun h => Nat.le_trans h4.size h), fun p hp => ⟨k3.keep (h6 p hp).1 (h6 p hp).2, fun hm => ?_⟩⟩
  rcases k4 _ hm with h | h
  · exact (h6 p hp).2 h
  · have := lt_of_block (h6 p hp).1; omega
/-- New: an empty one -/
theorem mine_New {w0 w : World} {mb : Nat} {mv : Value} (hm : MemAt w mb mv ⟨[], 0⟩) (h4 : Fr [] w0 w) (hmb : w0.heap.size ≤ mb) (hmv : ∀ k, mv.ownBlock = some k → w0.heap.size ≤ k) :
    Calls Try.prog 5 #[pt mb] w fun e w' => ∃ tb, e = .returned (pt tb) ∧ Hid (Mine w0 w' tb mb (fun _ => none) 0 []) := by
  refine (bt_New mb mv ⟨[], 0⟩ w hm (by simp)).mono ?_
  rintro e w' ⟨A, rfl, k1, k2, k3, k4⟩
  have hft : ∀ x ∈ MemAt.foot mb mv, w0.heap.size ≤ x := fun x hx => by
    simp [MemAt.foot] at hx
    rcases hx with rfl | hx
    · exact hmb
    · exact hmv x hx
  exact ⟨A.tb, rfl, Lib.hid ⟨A, rfl, k2, ⟨_, _, k1, Good.new ⟨[], 0⟩ rfl rfl⟩, h4.trans k3 (fun x hx => Or.inr (hft x hx)), fun y hy => (k4 y hy).elim (hft y) (fun h => Nat.le_trans h4.size h), by simp⟩⟩
/-- Keys -/
def HasKeys (x : Hold) (l : List ByteArray) : Prop := Rise l ∧ ∀ k, k ∈ l ↔ x k ≠ none
theorem HasKeys.entries {x : Hold} {l : List ByteArray} (h : HasKeys x l) {es : List Ent} (he : EntH es x) : l = keysE es := by
  obtain ⟨h3, h4⟩ := foldl_kept (es.map Ent.k) [] List.Pairwise.nil
  refine rise_unique h.1 h3 (fun k => ?_)
  rw [h.2]
  show _ ↔ k ∈ (es.map Ent.k).foldl insS []
  rw [h4]
  simp only [List.not_mem_nil, false_or]
  constructor
  · intro hk
    cases hx : x k with
    | none => exact absurd hx hk
    | some v => exact List.mem_map.2 ⟨⟨k, v⟩, (he.mem k v).2 hx, rfl⟩
  · intro hk
    obtain ⟨⟨k', v⟩, hm, hkk⟩ := List.mem_map.1 hk
    have hkk' : k' = k := hkk
    subst hkk'
    rw [(he.mem k' v).1 hm]; simp
theorem allC_stC (l : List ByteArray) : allC stC l = strs l := by
  induction l with
  | nil => rfl
  | cons a l ih => rw [allC_cons, ih]; rfl
theorem Strs.stIn {w : World} {v : Value} {l : List ByteArray} (h : Strs w v l) : StIn w v l := by
  have := Lies.of_own h
  have h2 : LAt stC 9 1 w v l := by
    unfold LAt
    rw [allC_stC]; exact this
  exact LAt.read h2 (fun _ => rfl)
/-! a Seek alone -/
structure SekX (x0 : ByteArray → Prop) (x : Hold) (k : ByteArray) (r : An) : Prop where
  no : r.ok = false → r = .no ∧ ∀ y, x0 y → ¬ ge y k
  yes : r.ok = true → r.err = 0 ∧ ge r.key k ∧ x r.key ≠ none ∧ ∀ y, x0 y → ge y k → ge y r.key
theorem SekI.bound {n : Nat} {t : Tr} {L : PT} {c : Cl} {x0 : ByteArray → Prop} {s : Stp} (h : SekI n t L c x0 s) : SekI (2 * (PT.node 2 L (.leaf 1)).depth + 3) t L c x0 s := by
  obtain ⟨hk, hpth, b, md, rfl, hm⟩ := h
  refine ⟨hk, hpth, b, md, rfl, ?_⟩
  cases md with
  | find => exact hm.elim
  | way => exact hm.elim
  | seek =>
    obtain ⟨X, C1, m, C2, f, C, hA, hn⟩ := hm
    have := plug_depth (f :: C) X
    rw [hA.pl] at this
    exact ⟨X, C1, m, C2, f, C, hA, by omega⟩
  | left =>
    obtain ⟨Y, m, C2, D, Z, hB, hn⟩ := hm
    have h1 := plug_depth D Y
    rw [← hB.sib] at h1
    have h2 := (sib_depth m Z).1
    have h3 := plug_depth C2 (m.fill Z)
    have h4 : plug C2 (m.fill Z) = .node 2 L (.leaf 1) := hB.pl
    rw [h4] at h3
    exact ⟨Y, m, C2, D, Z, hB, by omega⟩
theorem Good.same {t T : Tr} {L : PT} {x : Hold} {n : Nat} (h : Good t L x n) (hs : SameC t T) (hn : T.ms.n ≤ t.ms.n + 70000) : Good T L x (n + 1) :=
  ⟨hs.quiet h.quiet, hs.ord h.ord, fun k => by rw [hs.cont]; exact h.cont k, by have := h.cnt; omega, by rw [hs.ns]; have := h.ns; omega, by rw [hs.ws]; have := h.ws; omega, h.ti.sameC hs, h.li.sameC hs⟩
theorem Good.depth {t : Tr} {L : PT} {x : Hold} {n : Nat} (h : Good t L x n) (hn : n ≤ 2000) : (PT.node 2 L (.leaf 1)).depth ≤ 10000 := by
  have h1 := h.quiet.depth
  have h2 := h.ns
  have : PT.depth (.node 2 L (.leaf 1)) = max L.depth 0 + 1 := rfl
  rw [this]; omega
end Go.Proofs.Ytmhiolhgofackaa
