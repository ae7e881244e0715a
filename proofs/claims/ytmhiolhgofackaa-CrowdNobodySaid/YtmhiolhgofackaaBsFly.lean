/- PACKAGE bst: one call of a tree of a law's own, on its way: it is done in so many steps, and told what was known -/
import Derived.Test.YtmhiolhgofackaaBsMine
namespace Go.Proofs.Ytmhiolhgofackaa
open Go.RowKit
set_option linter.unusedVariables false
set_option linter.unusedSimpArgs false

/-- what lies beside a tree and its call -/
structure Aside (w0 w : World) (A : TA) (a : CA) (kd : Kd) (K : List (Nat × Obj)) : Prop where
  fr : Fr [] w0 w
  low : ∀ y ∈ Both A a kd, w0.heap.size ≤ y
  rows : ∀ q ∈ K, w.heap[q.1]? = some q.2 ∧ q.1 ∉ Both A a kd
  kdok : KdOk kd
/-- a call on its way: m steps at most; then the tree holds x, and r is told -/
def Fly (w0 w : World) (tb mb p : Nat) (x : Hold) (n m : Nat) (r : An) (K : List (Nat × Obj)) : Prop :=
  ∃ A a t c s V T C L, A.tb = tb ∧ A.mb = mb ∧ a.cb = p ∧ Cf [] w A a t c V ∧ StpAt [] w A a c.kd V s ∧ OkRun m t c s T C ∧ Good T L x n ∧ C.ans = r ∧ Aside w0 w A a c.kd K
/-- a call that is done -/
def Landed (w0 w : World) (tb mb p : Nat) (x : Hold) (n : Nat) (r : An) (K : List (Nat × Obj)) : Prop :=
  ∃ A a t c L, A.tb = tb ∧ A.mb = mb ∧ a.cb = p ∧ Cf [] w A a t c .nilFunc ∧ Good t L x n ∧ c.ans = r ∧ Aside w0 w A a c.kd K
section
variable {w0 w w' : World} {tb mb p n m : Nat} {x : Hold} {r : An} {K : List (Nat × Obj)}
theorem Aside.write {A : TA} {a : CA} {kd : Kd} (h : Aside w0 w A a kd K) (hlt : ∀ y ∈ Both A a kd, y < w.heap.size) {S : List Nat} {W : World} {K' : List (Nat × Obj)} (hS : ∀ b ∈ S, w0.heap.size ≤ b ∧ ∃ o, (b, o) ∈ K) (hf : Fr S w W) (hK : ∀ q ∈ K', W.heap[q.1]? = some q.2 ∧ ((∃ o, (q.1, o) ∈ K) ∨ w.heap.size ≤ q.1)) : Aside w0 W A a kd K' ∧ ∀ b ∈ S, b ∉ Both A a kd := by
  refine ⟨⟨h.fr.trans hf (fun b hb => Or.inr (hS b hb).1), h.low, fun q hq => ?_, h.kdok⟩, fun b hb => ?_⟩
  · obtain ⟨k1, k2⟩ := hK q hq
    refine ⟨k1, fun hm => ?_⟩
    rcases k2 with ⟨o, ho⟩ | k2
    · exact (h.rows _ ho).2 hm
    · have := hlt _ hm; omega
  · obtain ⟨_, o, ho⟩ := hS b hb
    exact (h.rows _ ho).2
theorem Cf.write {A : TA} {a : CA} {t : Tr} {c : Cl} {V : Value} (h : Cf [] w A a t c V) {S : List Nat} {W : World} (hf : Fr S w W) (hi : Iv [] w W) (hno : ∀ b ∈ S, b ∉ Both A a c.kd) : Cf [] W A a t c V :=
  ⟨h.tree.keep hf hi (fun k hk hm => hno k hm (List.mem_append_left _ hk)), h.call.keep hf hi (fun k hk hm => hno k hm (List.mem_append_right _ hk)), by simp⟩
/-- blocks that are known are written to -/
theorem Fly.write (h : Fly w0 w tb mb p x n m r K) {S : List Nat} {W : World} {K' : List (Nat × Obj)} (hS : ∀ b ∈ S, w0.heap.size ≤ b ∧ ∃ o, (b, o) ∈ K) (hf : Fr S w W) (hi : ∀ X, Iv X w W) (hK : ∀ q ∈ K', W.heap[q.1]? = some q.2 ∧ ((∃ o, (q.1, o) ∈ K) ∨ w.heap.size ≤ q.1)) : Fly w0 W tb mb p x n m r K' := by
  obtain ⟨A, a, t, c, s, V, T, C, L, h1, h2, h3, h4, h5, h6, h7, h8, h9⟩ := h
  obtain ⟨k1, k2⟩ := h9.write h4.lt hS hf hK
  exact ⟨A, a, t, c, s, V, T, C, L, h1, h2, h3, h4.write hf (hi []) k2, h5.keep (hi []), h6, h7, h8, k1⟩
theorem Landed.write (h : Landed w0 w tb mb p x n r K) {S : List Nat} {W : World} {K' : List (Nat × Obj)} (hS : ∀ b ∈ S, w0.heap.size ≤ b ∧ ∃ o, (b, o) ∈ K) (hf : Fr S w W) (hi : ∀ X, Iv X w W) (hK : ∀ q ∈ K', W.heap[q.1]? = some q.2 ∧ ((∃ o, (q.1, o) ∈ K) ∨ w.heap.size ≤ q.1)) : Landed w0 W tb mb p x n r K' := by
  obtain ⟨A, a, t, c, L, h1, h2, h3, h4, h5, h6, h7⟩ := h
  obtain ⟨k1, k2⟩ := h7.write h4.lt hS hf hK
  exact ⟨A, a, t, c, L, h1, h2, h3, h4.write hf (hi []) k2, h5, h6, k1⟩
theorem Fly.fr (h : Fly w0 w tb mb p x n m r K) : Fr [] w0 w := by
  obtain ⟨A, a, t, c, s, V, T, C, L, h1, h2, h3, h4, h5, h6, h7, h8, h9⟩ := h
  exact h9.fr
theorem Fly.at (h : Fly w0 w tb mb p x n m r K) {b : Nat} {o : Obj} (hm : (b, o) ∈ K) : w.heap[b]? = some o := by
  obtain ⟨A, a, t, c, s, V, T, C, L, h1, h2, h3, h4, h5, h6, h7, h8, h9⟩ := h
  exact (h9.rows _ hm).1
theorem Landed.fr (h : Landed w0 w tb mb p x n r K) : Fr [] w0 w := by
  obtain ⟨A, a, t, c, L, h1, h2, h3, h4, h5, h6, h7⟩ := h
  exact h7.fr
theorem Landed.at (h : Landed w0 w tb mb p x n r K) {b : Nat} {o : Obj} (hm : (b, o) ∈ K) : w.heap[b]? = some o := by
  obtain ⟨A, a, t, c, L, h1, h2, h3, h4, h5, h6, h7⟩ := h
  exact (h7.rows _ hm).1
theorem Fly.keep0 (h : Fly w0 w tb mb p x n m r K) (hf : Fr [] w w') : Fly w0 w' tb mb p x n m r K :=
  h.write (S := []) (by simp) hf (fun _ => hf.iv0) (fun q hq => ⟨hf.keep (h.at (o := q.2) hq) (by simp), Or.inl ⟨q.2, hq⟩⟩)
theorem Landed.keep0 (h : Landed w0 w tb mb p x n r K) (hf : Fr [] w w') : Landed w0 w' tb mb p x n r K :=
  h.write (S := []) (by simp) hf (fun _ => hf.iv0) (fun q hq => ⟨hf.keep (h.at (o := q.2) hq) (by simp), Or.inl ⟨q.2, hq⟩⟩)
theorem Mine.write (h : Mine w0 w tb mb x n K) {S : List Nat} {W : World} {K' : List (Nat × Obj)} (hS : ∀ b ∈ S, w0.heap.size ≤ b ∧ ∃ o, (b, o) ∈ K) (hf : Fr S w W) (hi : ∀ X, Iv X w W) (hK : ∀ q ∈ K', W.heap[q.1]? = some q.2 ∧ ((∃ o, (q.1, o) ∈ K) ∨ w.heap.size ≤ q.1)) : Mine w0 W tb mb x n K' := by
  obtain ⟨A, h1, h2, ⟨t, L, hT, hg⟩, h4, h5, h6⟩ := h
  have hlt := hT.toTreeB.lt
  refine ⟨A, h1, h2, ⟨t, L, hT.keep hf (hi []) (fun k hk hm => ?_), hg⟩, h4.trans hf (fun b hb => Or.inr (hS b hb).1), h5, fun q hq => ?_⟩
  · obtain ⟨_, o, ho⟩ := hS k hm
    exact (h6 _ ho).2 hk
  · obtain ⟨k1, k2⟩ := hK q hq
    refine ⟨k1, fun hm => ?_⟩
    rcases k2 with ⟨o, ho⟩ | k2
    · exact (h6 _ ho).2 hm
    · have := hlt _ hm; omega
/-- it is behind one -/
theorem Landed.mine (h : Landed w0 w tb mb p x n r K) : Mine w0 w tb mb x n K := by
  obtain ⟨A, a, t, c, L, h1, h2, h3, h4, h5, h6, h7⟩ := h
  exact ⟨A, h1, h2, ⟨t, L, h4.tree, h5⟩, h7.fr, fun y hy => h7.low y (List.mem_append_left _ hy), fun q hq => ⟨(h7.rows q hq).1, fun hm => (h7.rows q hq).2 (List.mem_append_left _ hm)⟩⟩
theorem Fly.pos (h : Fly w0 w tb mb p x n m r K) : 0 < m := by
  obtain ⟨A, a, t, c, s, V, T, C, L, h1, h2, h3, h4, h5, h6, h7, h8, h9⟩ := h
  cases m with
  | zero => exact h6.elim
  | succ m => omega
/-- it steps -/
theorem fly_step (h : Fly w0 w tb mb p x n (m + 1) r K) :
    Calls Try.prog 24 #[pt p] w fun e w' => ∃ b, e = .returned (.bool b) ∧ Hid ((b = true → Landed w0 w' tb mb p x n r K) ∧ (b = false → Fly w0 w' tb mb p x n m r K)) := by
  obtain ⟨A, a, t, c, s, V, T, C, L, rfl, rfl, rfl, h4, h5, ⟨k1, k2, k3⟩, h7, h8, h9⟩ := h
  refine (bt_step h4 h5 h9.kdok k1 k2).mono ?_
  rintro e w' ⟨A', a', V', he, hcf, hov, hkd, hext, ⟨pv, rfl⟩, hfr, hnew⟩
  have hlt := h4.lt
  have has : Aside w0 w' A' { a with pv := pv } c.kd K := by
    refine ⟨h9.fr.trans hfr (fun y hy => Or.inr (h9.low y hy)), fun y hy => (hnew y hy).elim (h9.low y) (fun e => Nat.le_trans h9.fr.size e), fun q hq => ⟨hfr.keep (h9.rows q hq).1 (h9.rows q hq).2, fun hm => ?_⟩, h9.kdok⟩
    have hl := lt_of_block (h9.rows q hq).1
    rcases hnew _ hm with e | e
    · exact (h9.rows q hq).2 e
    · omega
  rw [← hkd] at has
  cases ho : (stepP t c s).2.2 with
  | none =>
    rw [ho] at k3 hov he
    obtain ⟨rfl, rfl⟩ := k3
    have hV : V' = .nilFunc := hov
    subst hV
    exact ⟨true, he, Lib.hid ⟨fun _ => ⟨A', { a with pv := pv }, _, _, L, hext.tb, hext.mb, rfl, hcf, h7, h8, has⟩, fun e => absurd e (by decide)⟩⟩
  | some s' =>
    rw [ho] at k3 hov he
    rw [← hkd] at hov
    exact ⟨false, he, Lib.hid ⟨fun e => absurd e (by decide), fun _ => ⟨A', { a with pv := pv }, _, _, s', V', T, C, L, hext.tb, hext.mb, rfl, hcf, hov, k3, h7, h8, has⟩⟩⟩
/-- its answer -/
theorem landed_answer (h : Landed w0 w tb mb p x n r K) : Calls Try.prog 25 #[pt p] w fun e w' => e = .returned (.tuple #[r.agg, .bool true]) ∧ Fr [] w w' := by
  obtain ⟨A, a, t, c, L, h1, h2, rfl, h4, h5, rfl, h7⟩ := h
  exact ans_done h4.call.cbk
/-- a call is made -/
theorem fly_made {A : TA} {t : Tr} {L : PT} {e : Ending} (hT : TreeAt w A t) (hg : Good t L x n) (hn : n ≤ 2000) (h4 : Fr [] w0 w) (h5 : ∀ y ∈ A.foot, w0.heap.size ≤ y) (h6 : ∀ q ∈ K, w.heap[q.1]? = some q.2 ∧ q.1 ∉ A.foot) (kind : Int) (k : ByteArray) (v : Int) (hkk : KdOk (madeC kind k v).kd)
    (h : MadePost [] w A t (madeC kind k v) (madeS t kind k) e w') : ∃ p, e = .returned (pt p) ∧ Hid (Fly w0 w' A.tb A.mb p (doX x kind k v).1 (n + 1) (3 * n + 15) (doX x kind k v).2 K) ∧ w.heap.size ≤ p := by
  obtain ⟨A', a, V, rfl, hcf, hov, hext, hfr, hfA, hfa, hcb⟩ := h
  obtain ⟨m, T, C, L', r0, r1, r2, r3, _⟩ := op_doN hg hn kind k v
  have hd := hg.quiet.depth
  have hns := hg.ns
  have hb : ∀ y ∈ Both A' a (madeC kind k v).kd, y ∈ A.foot ∨ w.heap.size ≤ y := fun y hy => (List.mem_append.1 hy).elim (hfA y) (hfa y)
  refine ⟨a.cb, rfl, Lib.hid ⟨A', a, t, _, _, V, T, C, L', hext.tb, hext.mb, rfl, hcf, hov, r1.mono (by omega), r2, r3, ⟨h4.trans hfr (fun y hy => Or.inr (h5 y hy)), fun y hy => (hb y hy).elim (h5 y) (fun e => Nat.le_trans h4.size e), fun q hq => ⟨hfr.keep (h6 q hq).1 (h6 q hq).2, fun hm => ?_⟩, hkk⟩⟩, hcb⟩
  have hl := lt_of_block (h6 q hq).1
  rcases hb _ hm with e | e
  · exact (h6 q hq).2 e
  · omega
theorem fly_Insert (h : Mine w0 w tb mb x n K) (hn : n ≤ 2000) (k : ByteArray) (v : Int) :
    Calls Try.prog 14 #[pt tb, .string k, .int .u64 v] w fun e w' => ∃ p, e = .returned (pt p) ∧ Hid (Fly w0 w' tb mb p (doX x 1 k v).1 (n + 1) (3 * n + 15) (doX x 1 k v).2 K) ∧ w.heap.size ≤ p := by
  obtain ⟨A, rfl, rfl, ⟨t, L, hT, hg⟩, h4, h5, h6⟩ := h
  exact (bt_Insert (X := []) k v hT (by simp)).mono fun e w' hp => fly_made hT hg hn h4 h5 h6 1 k v (made_kd k v (by decide)) hp
theorem fly_Find (h : Mine w0 w tb mb x n K) (hn : n ≤ 2000) (k : ByteArray) :
    Calls Try.prog 7 #[pt tb, .string k] w fun e w' => ∃ p, e = .returned (pt p) ∧ Hid (Fly w0 w' tb mb p (doX x 3 k 0).1 (n + 1) (3 * n + 15) (doX x 3 k 0).2 K) ∧ w.heap.size ≤ p := by
  obtain ⟨A, rfl, rfl, ⟨t, L, hT, hg⟩, h4, h5, h6⟩ := h
  exact (bt_Find (X := []) k hT (by simp) (hg.quiet.nd2 (by have := hg.ns; omega))).mono fun e w' hp => fly_made hT hg hn h4 h5 h6 3 k 0 (made_kd k 0 (by decide)) hp
end
end Go.Proofs.Ytmhiolhgofackaa
