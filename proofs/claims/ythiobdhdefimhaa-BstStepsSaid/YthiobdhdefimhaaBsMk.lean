/- PACKAGE bst: steps that are made, beside a call; what a call tells; a way's nodes -/
import Derived.Test.YthiobdhdefimhaaBsCf
namespace Go.Proofs.Ythiobdhdefimhaa
open Go.RowKit
set_option linter.unusedVariables false
set_option linter.unusedSimpArgs false

section
variable {X : List Nat} {w : World} {A : TA} {a : CA} {t : Tr} {c : Cl} {N : Value} {kd : Kd}
theorem bt_look (h : Cf X w A a t c N) (hk : c.kd = kd) : Calls Try.prog 84 #[pt a.wb] w (Post X w A a kd N t (c, some .look)) :=
  (mk_look X a.wb w h.xs).mono fun e w' ⟨⟨p, he, hp⟩, hf⟩ => by
    rw [he]; exact Post.made h hf hk ⟨p, rfl, hp⟩
theorem bt_down (h : Cf X w A a t c N) (hk : c.kd = kd) : Calls Try.prog 82 #[pt a.wb] w (Post X w A a kd N t (c, some .down)) :=
  (mk_down X a.wb w h.xs).mono fun e w' ⟨⟨p, he, hp⟩, hf⟩ => by
    rw [he]; exact Post.made h hf hk ⟨p, rfl, hp⟩
theorem bt_desc (h : Cf X w A a t c N) (hk : c.kd = kd) (b : Br) (m : Md) : Calls Try.prog 48 #[pt A.tb, b.agg, towV a m, leafV a kd m] w (Post X w A a kd N t (c, some (.desc b m))) := by
  obtain ⟨f, x, y, ht⟩ := towV.form a m
  obtain ⟨f', x', y', hl⟩ := leafV.form a kd m
  rw [ht, hl]
  refine (mk_desc X A.tb f x y f' x' y' b.cell b.first w h.xs).mono ?_
  rintro e w' ⟨⟨p0, p1, p2, p3, he, h0, h1, h2, h3⟩, hf⟩
  rw [he]
  exact Post.made h hf hk ⟨p0, p1, p2, p3, rfl, h0, h1, by rw [ht]; exact h2, by rw [hl]; exact h3⟩
theorem bt_desc0 (h : Cf X w A a t c N) (hk : c.kd = kd) (b : Br) (m : Md) : Calls Try.prog 48 #[pt A.tb, b.agg, towV a m, leafV a kd m] w (fun e w' => Post X w A a kd N t (c, some (.desc b m)) e w' ∧ Fr [] w w') := by
  obtain ⟨f, x, y, ht⟩ := towV.form a m
  obtain ⟨f', x', y', hl⟩ := leafV.form a kd m
  rw [ht, hl]
  refine (mk_desc X A.tb f x y f' x' y' b.cell b.first w h.xs).mono ?_
  rintro e w' ⟨⟨p0, p1, p2, p3, he, h0, h1, h2, h3⟩, hf⟩
  rw [he]
  exact ⟨Post.made h hf hk ⟨p0, p1, p2, p3, rfl, h0, h1, by rw [ht]; exact h2, by rw [hl]; exact h3⟩, hf⟩
theorem bt_take (h : Cf X w A a t c N) (hk : c.kd = kd) (o n : Nat) (th : Th) (V : Value) (hV : ThAt X w A a kd V th) : Calls Try.prog 60 #[pt A.tb, A.wp o, A.np n, V] w (Post X w A a kd N t (c, some (.take o n th))) := by
  obtain ⟨f, x, y, hv⟩ := Th.form hV
  rw [hv] at hV ⊢
  refine (mk_take X A.tb _ _ f x y w h.xs).mono ?_
  rintro e w' ⟨⟨p0, p1, p2, p3, he, h0, h1, h2, h3⟩, hf⟩
  rw [he]
  exact Post.made h hf hk ⟨p0, p1, p2, p3, _, rfl, h0, h1, h2, h3, hV.keep hf.iv0⟩
theorem bt_drop (h : Cf X w A a t c N) (hk : c.kd = kd) (o : Nat) (th : Th) (V : Value) (hV : ThAt X w A a kd V th) : Calls Try.prog 89 #[pt A.tb, A.wp o, V] w (Post X w A a kd N t (c, some (.drop o th))) := by
  obtain ⟨f, x, y, hv⟩ := Th.form hV
  rw [hv] at hV ⊢
  refine (mk_drop X A.tb _ f x y w h.xs).mono ?_
  rintro e w' ⟨⟨p0, p1, p2, he, h0, h1, h2⟩, hf⟩
  rw [he]
  exact Post.made h hf hk ⟨p0, p1, p2, _, rfl, h0, h1, h2, hV.keep hf.iv0⟩
theorem bt_end (h : Cf X w A a t c N) (hk : c.kd = kd) (o : Nat) (th : Th) (V : Value) (hV : ThAt X w A a kd V th) : Calls Try.prog 87 #[pt A.tb, A.wp o, V] w (Post X w A a kd N t (c, some (.fin o th))) := by
  obtain ⟨f, x, y, hv⟩ := Th.form hV
  rw [hv] at hV ⊢
  refine (mk_end X A.tb _ f x y w h.xs).mono ?_
  rintro e w' ⟨⟨p0, p1, p2, he, h0, h1, h2⟩, hf⟩
  rw [he]
  exact Post.made h hf hk ⟨p0, p1, p2, _, rfl, h0, h1, h2, hV.keep hf.iv0⟩
theorem bt_mark (h : Cf X w A a t c N) (hk : c.kd = kd) (o : Nat) (th fl : Th) (V F : Value) (hV : ThAt X w A a kd V th) (hF : ThAt X w A a kd F fl) : Calls Try.prog 69 #[pt A.tb, A.wp o, V, F] w (Post X w A a kd N t (c, some (.mark o th fl))) := by
  obtain ⟨f, x, y, hv⟩ := Th.form hV
  obtain ⟨f', x', y', hv'⟩ := Th.form hF
  rw [hv] at hV ⊢
  rw [hv'] at hF ⊢
  refine (mk_mark X A.tb _ f x y f' x' y' w h.xs).mono ?_
  rintro e w' ⟨⟨p0, p1, p2, p3, he, h0, h1, h2, h3⟩, hf⟩
  rw [he]
  exact Post.made h hf hk ⟨p0, p1, p2, p3, _, _, rfl, h0, h1, h2, h3, hV.keep hf.iv0, hF.keep hf.iv0⟩
end
def An.agg (r : An) : Value := .agg #[.bool r.ok, .string r.key, .int .u64 r.val, .int .i64 r.err]
theorem CallM.told {X : List Nat} {w w' : World} {A : TA} {a : CA} {c : Cl} {N : Value} (h : CallM X w A a c N) (hf : Fr [a.cb] w w') (r : An) (hb : CallB w' a.cb N r) : CallM X w' A a (c.tell r) N := by
  have hi : Iv X w w' := hf.iv (mut_one h.cbk (imm_ty (by decide) (by decide)))
  have ne : ∀ k cur T f, w.heap[k]? = some (.cells cur T f) → T ≠ 85 → k ∉ [a.cb] := by
    intro k cur T f hk hT hm
    simp only [List.mem_singleton] at hm
    subst hm
    have := h.cbk
    unfold CallB at this
    rw [hk] at this; simp only [Option.some.injEq, Obj.cells.injEq] at this
    exact hT this.2.1
  refine ⟨h.ctx.keep hi, hb, fun e => ?_, fun e => hf.keep (h.full e) (ne _ _ _ _ (h.full e) (by decide)), fun e => ⟨hf.keep (h.over e).1 (ne _ _ _ _ (h.over e).1 (by decide)), (h.over e).2⟩⟩
  obtain ⟨h1, h2⟩ := h.way e
  refine ⟨hf.keep h1 (ne _ _ _ _ h1 (by decide)), ownsRow_fr hf h2 (fun k hk => ?_)⟩
  rcases h2.2 with ⟨hv, _⟩ | ⟨g, cap, cur, hv, _, hh, _⟩
  · rw [hv] at hk; cases hk
  · rw [hv] at hk; cases hk
    exact ne _ _ _ _ hh (by decide)
theorem CA.cb_in (a : CA) (kd : Kd) : a.cb ∈ a.foot kd := by unfold CA.foot; cases kd <;> simp
set_option maxHeartbeats 1000000 in
theorem bt_tell {X : List Nat} {w : World} {A : TA} {a : CA} {t : Tr} {c : Cl} {N : Value} {kd : Kd} (h : Cf X w A a t c N) (hk : c.kd = kd) (r : An) : Calls Try.prog 43 #[r.agg, pt a.bc] w (Post X w A a kd N t (c.tell r, none)) := by
  obtain ⟨wa, hwa⟩ : ∃ wa, wa = w.alloc (.cells #[.bool r.ok, .string r.key, .int .u64 r.val, .int .i64 r.err] 32) := ⟨_, rfl⟩
  have hfa : Fr [] w wa := by rw [hwa]; exact (Fr.refl [] w).alloc _
  have ha := h.keep0 hfa
  have hnb : wa.heap[w.heap.size]? = some (.cells #[.bool r.ok, .string r.key, .int .u64 r.val, .int .i64 r.err] 32 (0, 0)) := by rw [hwa]; exact new_block w _
  have hcb := ha.call.cbk
  have hclt := lt_of_block h.call.cbk
  have n1 : ¬ a.cb = w.heap.size := by omega
  have n2 : ¬ w.heap.size = a.cb := by omega
  have HF : Hid (∀ W, Fr [a.cb] wa W → W.heap[a.cb]? = some (.cells (clV N r) 85 (0, 0)) → Post X w A a kd N t (c.tell r, none) (.returned .nilFunc) W) := Lib.hid (by
    intro W hf hb
    have hf2 : Fr (Both A a kd) w W := (hfa.mono (by simp)).trans hf (by intro x hx; simp only [List.mem_singleton] at hx; subst hx; exact Or.inl (List.mem_append_right _ (a.cb_in kd)))
    refine ⟨A, a, .nilFunc, rfl, ⟨ha.tree.keep (X := X) hf (hf.iv (mut_one hcb (imm_ty (by decide) (by decide)))) ?_, ha.call.told hf r hb, fun x hx => Nat.lt_of_lt_of_le (h.xs x hx) hf2.size⟩, rfl, hk, Ext.refl A, ⟨a.pv, rfl⟩, hf2, fun x hx => Or.inl hx⟩
    intro k hk hm
    simp only [List.mem_singleton] at hm
    subst hm
    exact ha.call.sep ha.tree _ (a.cb_in _) hk)
  have v0 := ha.call.ctx.vc.cell
  unfold CallB clV at hcb
  obtain ⟨c0, c1, c2, c3, c4, cf⟩ := cells5 hcb
  obtain ⟨r0, r1, r2, r3, _⟩ := cells4 hnb
  have g1 := cf 1
  have g2 := cf 2
  have g3 := cf 3
  have g4 := cf 4
  have HCB : Hid (wa.heap[a.cb]? = some (.cells #[N, .bool c.ans.ok, .string c.ans.key, .int .u64 c.ans.val, .int .i64 c.ans.err] 85 (0, 0))) := Lib.hid hcb
  have HWA := Lib.hid hwa
  unfold An.agg
  clear h ha hcb hnb cf hwa hfa
  go_enter Try.func43, Try.ntmps43
  go_upto_region 1 with fail
  rw [← HWA.out]
  go_wp2
  go_ret
  refine HF.out _ ?_ ?_
  · repeat (first | exact Fr.refl _ _ | (refine Fr.setCell ?_ (Or.inl (by simp)) _))
  · have := set_block (set_block (set_block (set_block HCB.out 1 (.bool r.ok)) 2 (.string r.key)) 3 (.int .u64 r.val)) 4 (.int .i64 r.err)
    simpa [clV] using this
end Go.Proofs.Ythiobdhdefimhaa
