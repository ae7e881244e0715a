/- PACKAGE bst: a call beside its tree: what is kept, and what a step leaves -/
import Derived.Test.YtmhiolhgofackaaBsTree
namespace Go.Proofs.Ytmhiolhgofackaa
open Go.RowKit
set_option linter.unusedVariables false
set_option linter.unusedSimpArgs false

theorem TreeAt.ty2 {w : World} {A : TA} {t : Tr} (h : TreeAt w A t) : ∀ k ∈ A.foot, ∀ cur T f, w.heap[k]? = some (.cells cur T f) → T ∈ [49, 52] ∨ (T ∈ [39, 45] ∧ cur.size ≠ 1) := by
  intro k hk cur T f hc
  have row : ∀ {base e n : Nat} {v : Value} {xs : List Value}, w.ownsRow base e 1 v n xs → 3 ≤ n → v.ownBlock = some k → T = e ∧ cur.size ≠ 1 := by
    intro base e n v xs ho hn hk
    rcases ho.2 with ⟨rfl, _⟩ | ⟨g, cap, cur', rfl, _, hh, h5, h6, h7, _⟩
    · cases hk
    · cases hk
      rw [hc] at hh; simp only [Option.some.injEq, Obj.cells.injEq] at hh
      obtain ⟨rfl, rfl, _⟩ := hh
      exact ⟨rfl, by omega⟩
  simp [TA.foot, MemAt.foot] at hk
  rcases hk with rfl | rfl | rfl | hk | hk
  · have := h.blk; rw [hc] at this; simp only [Option.some.injEq, Obj.cells.injEq] at this; simp [this.2.1]
  · obtain ⟨es, c, hm⟩ := h.map.isMap; rw [hc] at hm; cases hm
  · have := h.mem.blk; rw [hc] at this; simp only [Option.some.injEq, Obj.cells.injEq] at this; simp [this.2.1]
  · obtain ⟨rfl, h2⟩ := row h.mem.row h.lo.2 hk; exact Or.inr ⟨by simp, h2⟩
  · obtain ⟨rfl, h2⟩ := row h.row h.lo.1 hk; exact Or.inr ⟨by simp, h2⟩
structure Ext (A A' : TA) : Prop where
  tb : A'.tb = A.tb
  top : A'.top = A.top
  nl : A.nb.length ≤ A'.nb.length
  nb : ∀ p, p < A.nb.length → A'.np p = A.np p
  wl : A.wb.length ≤ A'.wb.length
  wb : ∀ i, 1 ≤ i → i ≤ A.wb.length → A'.wp i = A.wp i
  mb : A'.mb = A.mb
theorem Ext.refl (A : TA) : Ext A A := ⟨rfl, rfl, Nat.le_refl _, fun _ _ => rfl, Nat.le_refl _, fun _ _ _ => rfl, rfl⟩
theorem Ext.trans {A B C : TA} (h : Ext A B) (k : Ext B C) : Ext A C := ⟨k.tb.trans h.tb, k.top.trans h.top, Nat.le_trans h.nl k.nl, fun p hp => (k.nb p (Nat.lt_of_lt_of_le hp h.nl)).trans (h.nb p hp), Nat.le_trans h.wl k.wl, fun i h0 hi => (k.wb i h0 (Nat.le_trans hi h.wl)).trans (h.wb i h0 hi), k.mb.trans h.mb⟩
theorem GrowA.ext {w : World} {A A' : TA} (h : GrowA w A A') : Ext A A' := by
  obtain ⟨l, hl⟩ := h.nb
  exact ⟨h.tb, h.top, by rw [hl]; simp, fun p hp => h.np hp, by rw [h.wb]; exact Nat.le_refl _, fun i _ _ => by unfold TA.wp; rw [h.wb], h.mb⟩
theorem TA.work_ext (A : TA) (b : Nat) : Ext A (A.work b) := by
  refine ⟨rfl, rfl, Nat.le_refl _, fun _ _ => rfl, by simp [TA.work], fun i h0 hi => ?_, rfl⟩
  unfold TA.wp TA.work
  simp only [List.getD_eq_getElem?_getD]
  rw [List.getElem?_append_left (by omega)]
theorem CtxI.keep {X : List Nat} {w w' : World} {A : TA} {a : CA} {kd : Kd} {key : ByteArray} {val : Int} (h : CtxI X w A a kd key val) (hi : Iv X w w') : CtxI X w' A a kd key val :=
  ⟨h.vc.keep hi, h.vt.keep hi, h.vk.keep hi, fun e => (h.vx e).keep hi, fun e => (h.vw e).keep hi, fun e => ⟨(h.v2 e).1.keep hi, (h.v2 e).2.1.keep hi, (h.v2 e).2.2.keep hi⟩, fun e => (h.v7 e).keep hi, fun e => (h.vf e).keep hi⟩
theorem CtxI.ext {X : List Nat} {w : World} {A A' : TA} {a : CA} {kd : Kd} {key : ByteArray} {val : Int} (h : CtxI X w A a kd key val) (he : Ext A A') : CtxI X w A' a kd key val :=
  ⟨h.vc, h.vt, h.vk, fun e => by rw [he.tb]; exact h.vx e, h.vw, h.v2, h.v7, h.vf⟩
theorem ThAt.keep {X : List Nat} {w w' : World} {A : TA} {a : CA} {kd : Kd} {V : Value} (hi : Iv X w w') : ∀ {th : Th}, ThAt X w A a kd V th → ThAt X w' A a kd V th
  | .told l, h => by
    cases kd
    · exact h
    all_goals obtain ⟨b, h1, h2⟩ := h; exact ⟨b, h1, h2.keep hi⟩
  | .look, h => h
  | .fail, h => h
theorem StpAt.keep {X : List Nat} {w w' : World} {A : TA} {a : CA} {kd : Kd} {V : Value} (hi : Iv X w w') : ∀ {s : Stp}, StpAt X w A a kd V s → StpAt X w' A a kd V s
  | .desc b m, ⟨p0, p1, p2, p3, h1, h2, h3, h4, h5⟩ => ⟨p0, p1, p2, p3, h1, h2.keep hi, hi.keep _ _ h3 ⟨_, _, rfl, Or.inl (by simp [immT])⟩, h4.keep hi, h5.keep hi⟩
  | .beg, h => h
  | .look, ⟨p, h1, h2⟩ => ⟨p, h1, h2.keep hi⟩
  | .down, ⟨p, h1, h2⟩ => ⟨p, h1, h2.keep hi⟩
  | .grow l, ⟨p, h1, h2⟩ => ⟨p, h1, h2.keep hi⟩
  | .lose l, ⟨p, h1, h2⟩ => ⟨p, h1, h2.keep hi⟩
  | .mark o th fl, ⟨p0, p1, p2, p3, T, F, h1, h2, h3, h4, h5, h6, h7⟩ => ⟨p0, p1, p2, p3, T, F, h1, h2.keep hi, h3.keep hi, h4.keep hi, h5.keep hi, h6.keep hi, h7.keep hi⟩
  | .drop o th, ⟨p0, p1, p2, T, h1, h2, h3, h4, h6⟩ => ⟨p0, p1, p2, T, h1, h2.keep hi, h3.keep hi, h4.keep hi, h6.keep hi⟩
  | .take o n th, ⟨p0, p1, p2, p3, T, h1, h2, h3, h4, h5, h6⟩ => ⟨p0, p1, p2, p3, T, h1, h2.keep hi, h3.keep hi, h4.keep hi, h5.keep hi, h6.keep hi⟩
  | .fin o th, ⟨p0, p1, p2, T, h1, h2, h3, h4, h6⟩ => ⟨p0, p1, p2, T, h1, h2.keep hi, h3.keep hi, h4.keep hi, h6.keep hi⟩
/-- what is named is there: n nodes, m works -/
def ThIn (n : Nat) : Th → Prop
  | .told l => l < n
  | _ => True
def StpIn (n m : Nat) : Stp → Prop
  | .grow l => l < n
  | .lose l => l < n
  | .mark o th fl => 1 ≤ o ∧ o ≤ m ∧ ThIn n th ∧ ThIn n fl
  | .drop o th => 1 ≤ o ∧ o ≤ m ∧ ThIn n th
  | .take o q th => 1 ≤ o ∧ o ≤ m ∧ q < n ∧ ThIn n th
  | .fin o th => 1 ≤ o ∧ o ≤ m ∧ ThIn n th
  | _ => True
theorem ThAt.ext {X : List Nat} {w : World} {A A' : TA} {a : CA} {kd : Kd} {V : Value} (he : Ext A A') : ∀ {th : Th}, ThIn A.nb.length th → ThAt X w A a kd V th → ThAt X w A' a kd V th
  | .told l, hn, h => by
    cases kd
    · exact h
    all_goals obtain ⟨b, h1, h2⟩ := h; exact ⟨b, h1, by rw [he.nb l hn]; exact h2⟩
  | .look, _, h => h
  | .fail, _, h => h
theorem StpAt.ext {X : List Nat} {w : World} {A A' : TA} {a : CA} {kd : Kd} {V : Value} (he : Ext A A') : ∀ {s : Stp}, StpIn A.nb.length A.wb.length s → StpAt X w A a kd V s → StpAt X w A' a kd V s
  | .desc b m, _, ⟨p0, p1, p2, p3, h1, h2, h3, h4, h5⟩ => ⟨p0, p1, p2, p3, h1, by rw [he.tb]; exact h2, h3, h4, h5⟩
  | .beg, _, h => h
  | .look, _, h => h
  | .down, _, h => h
  | .grow l, hn, ⟨p, h1, h2⟩ => ⟨p, h1, by rw [he.nb l hn]; exact h2⟩
  | .lose l, hn, ⟨p, h1, h2⟩ => ⟨p, h1, by rw [he.nb l hn]; exact h2⟩
  | .mark o th fl, ⟨n1, n2, n3, n4⟩, ⟨p0, p1, p2, p3, T, F, h1, h2, h3, h4, h5, h6, h7⟩ => ⟨p0, p1, p2, p3, T, F, h1, by rw [he.tb]; exact h2, by rw [he.wb o n1 n2]; exact h3, h4, h5, h6.ext he n3, h7.ext he n4⟩
  | .drop o th, ⟨n1, n2, n3⟩, ⟨p0, p1, p2, T, h1, h2, h3, h4, h6⟩ => ⟨p0, p1, p2, T, h1, by rw [he.tb]; exact h2, by rw [he.wb o n1 n2]; exact h3, h4, h6.ext he n3⟩
  | .take o n th, ⟨n1, n2, n3, n4⟩, ⟨p0, p1, p2, p3, T, h1, h2, h3, h4, h5, h6⟩ => ⟨p0, p1, p2, p3, T, h1, by rw [he.tb]; exact h2, by rw [he.wb o n1 n2]; exact h3, by rw [he.nb n n3]; exact h4, h5, h6.ext he n4⟩
  | .fin o th, ⟨n1, n2, n3⟩, ⟨p0, p1, p2, T, h1, h2, h3, h4, h6⟩ => ⟨p0, p1, p2, T, h1, by rw [he.tb]; exact h2, by rw [he.wb o n1 n2]; exact h3, h4, h6.ext he n3⟩
/-- nodes that a call names are there -/
def ClIn (n : Nat) (c : Cl) : Prop := (∀ p ∈ c.path, p.node < n) ∧ ∀ p, c.over = some p → p < n
theorem psV_ext {A A' : TA} (he : Ext A A') {l : List Ps} (hl : ∀ p ∈ l, p.node < A.nb.length) : l.flatMap (psV A') = l.flatMap (psV A) := by
  induction l with
  | nil => rfl
  | cons p l ih =>
    rw [List.flatMap_cons, List.flatMap_cons, ih (fun q hq => hl q (List.mem_cons_of_mem _ hq))]
    unfold psV
    rw [he.nb _ (hl p (List.mem_cons_self ..))]
theorem CallM.ext {X : List Nat} {w : World} {A A' : TA} {a : CA} {c : Cl} {N : Value} (h : CallM X w A a c N) (he : Ext A A') (hc : ClIn A.nb.length c) : CallM X w A' a c N := by
  refine ⟨h.ctx.ext he, h.cbk, fun e => ?_, h.full, fun e => ?_⟩
  · obtain ⟨h1, h2⟩ := h.way e
    exact ⟨by rw [he.tb]; exact h1, by rw [psV_ext he hc.1]; exact h2⟩
  · obtain ⟨h1, h2⟩ := h.over e
    refine ⟨?_, h2⟩
    cases ho : c.over with
    | none => rw [ho] at h1; exact h1
    | some p =>
      rw [ho] at h1
      show w.heap[a.b5]? = some (.cells #[A'.np p] _ _)
      rw [he.nb p (hc.2 p ho)]
      exact h1
/-- a call's own blocks are none of a tree's -/
theorem CallM.sep {X : List Nat} {w : World} {A : TA} {t : Tr} {a : CA} {c : Cl} {N : Value} (h : CallM X w A a c N) (ht : TreeAt w A t) : ∀ k ∈ a.foot c.kd, k ∉ A.foot := by
  intro k hk hA
  have hty := ht.ty2 k hA
  have hcb : k ≠ a.cb := by
    rintro rfl
    have := hty _ _ _ h.cbk
    revert this; simp
  have hway : (c.kd = .ins ∨ c.kd = .rem) → k ∉ WayAt.foot a := by
    intro e hm
    obtain ⟨h1, h2⟩ := h.way e
    simp [WayAt.foot] at hm
    rcases hm with rfl | hm
    · have := hty _ _ _ h1
      revert this; simp
    · rcases h2.2 with ⟨hv, _⟩ | ⟨g, cap, cur, hv, _, hh, _⟩
      · rw [hv] at hm; cases hm
      · rw [hv] at hm; cases hm
        have := hty _ _ _ hh
        revert this; simp
  unfold CA.foot at hk
  cases hkd : c.kd <;> rw [hkd] at hk <;> simp only [List.mem_cons, List.not_mem_nil, or_false] at hk
  · rcases hk with hk | hk | hk
    · exact hcb hk
    · subst hk
      have := hty _ _ _ (h.full hkd)
      revert this; simp
    · exact hway (Or.inl hkd) hk
  · rcases hk with hk | hk
    · exact hcb hk
    · exact hway (Or.inr hkd) hk
  · exact hcb hk
  · rcases hk with hk | hk
    · exact hcb hk
    · subst hk
      have := hty _ _ _ (h.over hkd).1
      revert this; simp
theorem CallM.mut {X : List Nat} {w : World} {A : TA} {a : CA} {c : Cl} {N : Value} (h : CallM X w A a c N) : Mut X w (a.foot c.kd) := by
  have h1 : Mut X w [a.cb] := mut_one h.cbk (imm_ty (by decide) (by decide))
  have h2 : (c.kd = .ins ∨ c.kd = .rem) → Mut X w (WayAt.foot a) := fun e => by
    obtain ⟨k1, k2⟩ := h.way e
    exact (Mut.app (mut_one k1 (imm_ty (by decide) (by decide))) (mut_row k2 (by decide) (Or.inl (by decide)))).sub (by intro x hx; simpa [WayAt.foot] using hx)
  unfold CA.foot
  cases hkd : c.kd
  · exact (h1.app ((mut_one (h.full hkd) (imm_ty (by decide) (by decide))).app (h2 (Or.inl hkd)))).sub (by intro x hx; simpa using hx)
  · exact (h1.app (h2 (Or.inr hkd))).sub (by intro x hx; simpa using hx)
  · exact h1
  · exact (h1.app (mut_one (h.over hkd).1 (imm_over (by decide) (h.over hkd).2))).sub (by intro x hx; simpa using hx)
theorem CallM.lt {X : List Nat} {w : World} {A : TA} {a : CA} {c : Cl} {N : Value} (h : CallM X w A a c N) : ∀ k ∈ a.foot c.kd, k < w.heap.size := by
  have hway : (c.kd = .ins ∨ c.kd = .rem) → ∀ k ∈ WayAt.foot a, k < w.heap.size := by
    intro e k hm
    obtain ⟨h1, h2⟩ := h.way e
    simp [WayAt.foot] at hm
    rcases hm with rfl | hm
    · exact lt_of_block h1
    · exact (h2.lt k hm).2
  intro k hk
  unfold CA.foot at hk
  cases hkd : c.kd <;> rw [hkd] at hk <;> simp only [List.mem_cons, List.not_mem_nil, or_false] at hk
  · rcases hk with rfl | rfl | hk
    · exact lt_of_block h.cbk
    · exact lt_of_block (h.full hkd)
    · exact hway (Or.inl hkd) k hk
  · rcases hk with rfl | hk
    · exact lt_of_block h.cbk
    · exact hway (Or.inr hkd) k hk
  · subst hk; exact lt_of_block h.cbk
  · rcases hk with rfl | rfl
    · exact lt_of_block h.cbk
    · exact lt_of_block (h.over hkd).1
theorem CallM.keep {X S : List Nat} {w w' : World} {A : TA} {a : CA} {c : Cl} {N : Value} (h : CallM X w A a c N) (hf : Fr S w w') (hi : Iv X w w') (hs : ∀ k ∈ a.foot c.kd, k ∉ S) : CallM X w' A a c N := by
  have hcb : a.cb ∉ S := hs _ (by unfold CA.foot; cases c.kd <;> simp)
  refine ⟨h.ctx.keep hi, hf.keep h.cbk hcb, fun e => ?_, fun e => hf.keep (h.full e) (hs _ (by rw [e]; simp [CA.foot])), fun e => ⟨hf.keep (h.over e).1 (hs _ (by rw [e]; simp [CA.foot])), (h.over e).2⟩⟩
  obtain ⟨h1, h2⟩ := h.way e
  have hw : ∀ k ∈ WayAt.foot a, k ∉ S := fun k hk => hs k (by rcases e with e | e <;> rw [e] <;> simp [CA.foot, hk])
  exact ⟨hf.keep h1 (hw _ (by simp [WayAt.foot])), ownsRow_fr hf h2 (fun k hk => hw k (by simp [WayAt.foot, hk]))⟩
/-- a call beside its tree -/
structure Cf (X : List Nat) (w : World) (A : TA) (a : CA) (t : Tr) (c : Cl) (N : Value) : Prop where
  tree : TreeAt w A t
  call : CallM X w A a c N
  xs : ∀ x ∈ X, x < w.heap.size
theorem Cf.keep0 {X : List Nat} {w w' : World} {A : TA} {a : CA} {t : Tr} {c : Cl} {N : Value} (h : Cf X w A a t c N) (hf : Fr [] w w') : Cf X w' A a t c N :=
  ⟨h.tree.keep0 hf, h.call.keep hf hf.iv0 (by simp), fun x hx => Nat.lt_of_lt_of_le (h.xs x hx) hf.size⟩
theorem Cf.treed {X : List Nat} {w w' : World} {A A' : TA} {a : CA} {t t' : Tr} {c : Cl} {N : Value} (h : Cf X w A a t c N) (hf : Fr A.foot w w') (ht : TreeAt w' A' t') (he : Ext A A') (hc : ClIn t.ns.length c) : Cf X w' A' a t' c N :=
  ⟨ht, (h.call.keep hf (h.tree.iv hf) (h.call.sep h.tree)).ext he (by rw [h.tree.nlen]; exact hc), fun x hx => Nat.lt_of_lt_of_le (h.xs x hx) hf.size⟩
theorem Cf.treed0 {X : List Nat} {w w' : World} {A : TA} {a : CA} {t t' : Tr} {c : Cl} {N : Value} (h : Cf X w A a t c N) (hf : Fr A.foot w w') (ht : TreeAt w' A t') : Cf X w' A a t' c N :=
  ⟨ht, h.call.keep hf (h.tree.iv hf) (h.call.sep h.tree), fun x hx => Nat.lt_of_lt_of_le (h.xs x hx) hf.size⟩
/-- the blocks that a step may change -/
def Both (A : TA) (a : CA) (kd : Kd) : List Nat := A.foot ++ a.foot kd
theorem Cf.iv {X : List Nat} {w w' : World} {A : TA} {a : CA} {t : Tr} {c : Cl} {N : Value} (h : Cf X w A a t c N) (hf : Fr (Both A a c.kd) w w') : Iv X w w' := hf.iv (h.tree.mut.app h.call.mut)
structure CExt (a a' : CA) : Prop where
  cb : a'.cb = a.cb
  eq : ∃ pv, a' = { a with pv := pv }
/-- what a step leaves -/
def Post (X : List Nat) (w : World) (A : TA) (a : CA) (kd : Kd) (N : Value) (t' : Tr) (o : Out) (e : Ending) (w' : World) : Prop :=
  ∃ A' a' V, e = .returned V ∧ Cf X w' A' a' t' o.1 N ∧ OutV X w' A' a' kd V o.2 ∧ o.1.kd = kd ∧ Ext A A' ∧ (∃ pv, a' = { a with pv := pv }) ∧ Fr (Both A a kd) w w' ∧ ∀ x ∈ Both A' a' kd, x ∈ Both A a kd ∨ w.heap.size ≤ x
theorem Post.trans {X : List Nat} {w w1 w' : World} {A A1 : TA} {a a1 : CA} {kd : Kd} {N : Value} {t' : Tr} {o : Out} {e : Ending} (h : Post X w1 A1 a1 kd N t' o e w') (he : Ext A A1) (ha : ∃ pv, a1 = { a with pv := pv }) (hf : Fr (Both A a kd) w w1)
    (hn : ∀ x ∈ Both A1 a1 kd, x ∈ Both A a kd ∨ w.heap.size ≤ x) : Post X w A a kd N t' o e w' := by
  obtain ⟨A', a', V, h1, h2, h3, h4, h5, ⟨pv, h6⟩, h7, h8⟩ := h
  obtain ⟨pv0, ha⟩ := ha
  refine ⟨A', a', V, h1, h2, h3, h4, he.trans h5, ⟨pv, by rw [h6, ha]⟩, hf.trans h7 hn, fun x hx => ?_⟩
  rcases h8 x hx with h | h
  · exact hn x h
  · exact Or.inr (Nat.le_trans hf.size h)
theorem Post.ret {X : List Nat} {w w' : World} {A : TA} {a : CA} {kd : Kd} {N : Value} {t' : Tr} {o : Out} {e : Ending} (h : Post X w A a kd N t' o e w') : ∃ V, e = .returned V ∧ Hid (Post X w A a kd N t' o (.returned V) w') := by
  obtain ⟨A', a', V, rfl, hr⟩ := h
  exact ⟨V, rfl, Lib.hid ⟨A', a', V, rfl, hr⟩⟩
/-- a step that makes new blocks alone -/
theorem Post.made {X : List Nat} {w w' : World} {A : TA} {a : CA} {kd : Kd} {N : Value} {t : Tr} {c : Cl} {V : Value} {s : Option Stp} (h : Cf X w A a t c N) (hf : Fr [] w w') (hk : c.kd = kd) (hs : OutV X w' A a kd V s) : Post X w A a kd N t (c, s) (.returned V) w' :=
  ⟨A, a, V, rfl, h.keep0 hf, hs, hk, Ext.refl A, ⟨a.pv, rfl⟩, hf.mono (by simp), fun x hx => Or.inl hx⟩
theorem Post.treed {X : List Nat} {w w1 w' : World} {A : TA} {a : CA} {kd : Kd} {N : Value} {t' : Tr} {o : Out} {e : Ending} (h : Post X w1 A a kd N t' o e w') (hf : Fr A.foot w w1) : Post X w A a kd N t' o e w' :=
  h.trans (Ext.refl A) ⟨a.pv, rfl⟩ (hf.mono (fun k hk => Or.inl (List.mem_append_left _ hk))) (fun x hx => Or.inl hx)
theorem Post.after0 {X : List Nat} {w w1 w' : World} {A : TA} {a : CA} {kd : Kd} {N : Value} {t' : Tr} {o : Out} {e : Ending} (h : Post X w1 A a kd N t' o e w') (hf : Fr [] w w1) : Post X w A a kd N t' o e w' := h.treed (hf.mono (by simp))
theorem Th.form {X : List Nat} {w : World} {A : TA} {a : CA} {kd : Kd} {V : Value} {th : Th} (h : ThAt X w A a kd V th) : ∃ f x y, V = .func f x y := by
  cases th with
  | told l =>
    cases kd
    · exact ⟨_, _, _, h⟩
    all_goals obtain ⟨b, h, _⟩ := h; exact ⟨_, _, _, h⟩
  | look => exact ⟨_, _, _, h⟩
  | fail => exact ⟨_, _, _, h⟩
theorem towV.form (a : CA) (m : Md) : ∃ f x y, towV a m = .func f x y := by cases m <;> exact ⟨_, _, _, rfl⟩
theorem leafV.form (a : CA) (kd : Kd) (m : Md) : ∃ f x y, leafV a kd m = .func f x y := by cases kd <;> cases m <;> exact ⟨_, _, _, rfl⟩
theorem foot_pv {a : CA} {pv : Value} {kd : Kd} {w : World} (hp : ∀ k, pv.ownBlock = some k → a.pv.ownBlock = some k ∨ w.heap.size ≤ k) : ∀ x ∈ CA.foot { a with pv := pv } kd, x ∈ a.foot kd ∨ w.heap.size ≤ x := by
  intro x hx
  have hw : x ∈ WayAt.foot { a with pv := pv } → x ∈ WayAt.foot a ∨ w.heap.size ≤ x := by
    intro h
    simp [WayAt.foot] at h ⊢
    rcases h with h | h
    · exact Or.inl (Or.inl h)
    · exact (hp x h).imp Or.inr id
  unfold CA.foot at hx ⊢
  cases kd <;> simp only [List.mem_cons, List.not_mem_nil, or_false] at hx ⊢
  · rcases hx with h | h | h
    · exact Or.inl (Or.inl h)
    · exact Or.inl (Or.inr (Or.inl h))
    · exact (hw h).imp (fun h => Or.inr (Or.inr h)) id
  · rcases hx with h | h
    · exact Or.inl (Or.inl h)
    · exact (hw h).imp Or.inr id
  · exact Or.inl hx
  · exact Or.inl hx
end Go.Proofs.Ytmhiolhgofackaa
