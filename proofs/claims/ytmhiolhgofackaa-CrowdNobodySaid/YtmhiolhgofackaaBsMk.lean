/- PACKAGE bst: steps that are made, beside a call; what a call tells; a way's nodes
PACKAGE bst: a way: up, pass
PACKAGE bst: anew; a call's way is another one
PACKAGE bst: help, met
PACKAGE bst: met -/
import Derived.Test.YtmhiolhgofackaaBsCf
namespace Go.Proofs.Ytmhiolhgofackaa
open Go.RowKit
set_option linter.unusedVariables false
set_option linter.unusedSimpArgs false

section
variable {X : List Nat} {w : World} {A : TA} {a : CA} {t : Tr} {c : Cl} {N : Value} {kd : Kd}
theorem bt_look (h : Cf X w A a t c N) (hk : c.kd = kd) : Calls Try.prog 78 #[pt a.wb] w (Post X w A a kd N t (c, some .look)) :=
  (mk_look X a.wb w h.xs).mono fun e w' ⟨⟨p, he, hp⟩, hf⟩ => by
    rw [he]; exact Post.made h hf hk ⟨p, rfl, hp⟩
theorem bt_down (h : Cf X w A a t c N) (hk : c.kd = kd) : Calls Try.prog 76 #[pt a.wb] w (Post X w A a kd N t (c, some .down)) :=
  (mk_down X a.wb w h.xs).mono fun e w' ⟨⟨p, he, hp⟩, hf⟩ => by
    rw [he]; exact Post.made h hf hk ⟨p, rfl, hp⟩
theorem bt_desc (h : Cf X w A a t c N) (hk : c.kd = kd) (b : Br) (m : Md) : Calls Try.prog 45 #[pt A.tb, b.agg, towV a m, leafV a kd m] w (Post X w A a kd N t (c, some (.desc b m))) := by
  obtain ⟨f, x, y, ht⟩ := towV.form a m
  obtain ⟨f', x', y', hl⟩ := leafV.form a kd m
  rw [ht, hl]
  refine (mk_desc X A.tb f x y f' x' y' b.cell b.first w h.xs).mono ?_
  rintro e w' ⟨⟨p0, p1, p2, p3, he, h0, h1, h2, h3⟩, hf⟩
  rw [he]
  exact Post.made h hf hk ⟨p0, p1, p2, p3, rfl, h0, h1, by rw [ht]; exact h2, by rw [hl]; exact h3⟩
theorem bt_desc0 (h : Cf X w A a t c N) (hk : c.kd = kd) (b : Br) (m : Md) : Calls Try.prog 45 #[pt A.tb, b.agg, towV a m, leafV a kd m] w (fun e w' => Post X w A a kd N t (c, some (.desc b m)) e w' ∧ Fr [] w w') := by
  obtain ⟨f, x, y, ht⟩ := towV.form a m
  obtain ⟨f', x', y', hl⟩ := leafV.form a kd m
  rw [ht, hl]
  refine (mk_desc X A.tb f x y f' x' y' b.cell b.first w h.xs).mono ?_
  rintro e w' ⟨⟨p0, p1, p2, p3, he, h0, h1, h2, h3⟩, hf⟩
  rw [he]
  exact ⟨Post.made h hf hk ⟨p0, p1, p2, p3, rfl, h0, h1, by rw [ht]; exact h2, by rw [hl]; exact h3⟩, hf⟩
theorem bt_take (h : Cf X w A a t c N) (hk : c.kd = kd) (o n : Nat) (th : Th) (V : Value) (hV : ThAt X w A a kd V th) : Calls Try.prog 57 #[pt A.tb, A.wp o, A.np n, V] w (Post X w A a kd N t (c, some (.take o n th))) := by
  obtain ⟨f, x, y, hv⟩ := Th.form hV
  rw [hv] at hV ⊢
  refine (mk_take X A.tb _ _ f x y w h.xs).mono ?_
  rintro e w' ⟨⟨p0, p1, p2, p3, he, h0, h1, h2, h3⟩, hf⟩
  rw [he]
  exact Post.made h hf hk ⟨p0, p1, p2, p3, _, rfl, h0, h1, h2, h3, hV.keep hf.iv0⟩
theorem bt_drop (h : Cf X w A a t c N) (hk : c.kd = kd) (o : Nat) (th : Th) (V : Value) (hV : ThAt X w A a kd V th) : Calls Try.prog 89 #[pt A.tb, A.wp o, V] w (Post X w A a kd N t (c, some (.drop o th))) := by
  obtain ⟨f, x, y, hv⟩ := Th.form hV
  rw [hv] at hV ⊢
  refine (mk_drop X A.tb _ f x y w h.xs).mono ?_
  rintro e w' ⟨⟨p0, p1, p2, he, h0, h1, h2⟩, hf⟩
  rw [he]
  exact Post.made h hf hk ⟨p0, p1, p2, _, rfl, h0, h1, h2, hV.keep hf.iv0⟩
theorem bt_end (h : Cf X w A a t c N) (hk : c.kd = kd) (o : Nat) (th : Th) (V : Value) (hV : ThAt X w A a kd V th) : Calls Try.prog 81 #[pt A.tb, A.wp o, V] w (Post X w A a kd N t (c, some (.fin o th))) := by
  obtain ⟨f, x, y, hv⟩ := Th.form hV
  rw [hv] at hV ⊢
  refine (mk_end X A.tb _ f x y w h.xs).mono ?_
  rintro e w' ⟨⟨p0, p1, p2, he, h0, h1, h2⟩, hf⟩
  rw [he]
  exact Post.made h hf hk ⟨p0, p1, p2, _, rfl, h0, h1, h2, hV.keep hf.iv0⟩
theorem bt_mark (h : Cf X w A a t c N) (hk : c.kd = kd) (o : Nat) (th fl : Th) (V F : Value) (hV : ThAt X w A a kd V th) (hF : ThAt X w A a kd F fl) : Calls Try.prog 88 #[pt A.tb, A.wp o, V, F] w (Post X w A a kd N t (c, some (.mark o th fl))) := by
  obtain ⟨f, x, y, hv⟩ := Th.form hV
  obtain ⟨f', x', y', hv'⟩ := Th.form hF
  rw [hv] at hV ⊢
  rw [hv'] at hF ⊢
  refine (mk_mark X A.tb _ f x y f' x' y' w h.xs).mono ?_
  rintro e w' ⟨⟨p0, p1, p2, p3, he, h0, h1, h2, h3⟩, hf⟩
  rw [he]
  exact Post.made h hf hk ⟨p0, p1, p2, p3, _, _, rfl, h0, h1, h2, h3, hV.keep hf.iv0, hF.keep hf.iv0⟩
end
def An.agg (r : An) : Value := .agg #[.bool r.ok, .string r.key, .int .u64 r.val, .int .i64 r.err]
theorem CallM.told {X : List Nat} {w w' : World} {A : TA} {a : CA} {c : Cl} {N : Value} (h : CallM X w A a c N) (hf : Fr [a.cb] w w') (r : An) (hb : CallB w' a.cb N r) : CallM X w' A a (c.tell r) N := by
  have hi : Iv X w w' := hf.iv (mut_one h.cbk (imm_ty (by decide) (by decide)))
  have ne : ∀ k cur T f, w.heap[k]? = some (.cells cur T f) → T ≠ 103 → k ∉ [a.cb] := by
    intro k cur T f hk hT hm
    simp only [List.mem_singleton] at hm
    subst hm
    have := h.cbk
    unfold CallB at this
    rw [hk] at this; simp only [Option.some.injEq, Obj.cells.injEq] at this
    exact hT this.2.1
  refine ⟨h.ctx.keep hi, hb, fun e => ?_, fun e => hf.keep (h.full e) (ne _ _ _ _ (h.full e) (by decide)), fun e => ⟨hf.keep (h.over e).1 (ne _ _ _ _ (h.over e).1 (by decide)), (h.over e).2⟩⟩
  obtain ⟨h1, h2⟩ := h.way e
  refine ⟨hf.keep h1 (ne _ _ _ _ h1 (by decide)), ownsRow_fr hf h2 (fun k hk => ?_)⟩
  rcases h2.2 with ⟨hv, _⟩ | ⟨g, cap, cur, hv, _, hh, _⟩
  · rw [hv] at hk; cases hk
  · rw [hv] at hk; cases hk
    exact ne _ _ _ _ hh (by decide)
theorem CA.cb_in (a : CA) (kd : Kd) : a.cb ∈ a.foot kd := by unfold CA.foot; cases kd <;> simp
set_option maxHeartbeats 1000000 in
theorem bt_tell {X : List Nat} {w : World} {A : TA} {a : CA} {t : Tr} {c : Cl} {N : Value} {kd : Kd} (h : Cf X w A a t c N) (hk : c.kd = kd) (r : An) : Calls Try.prog 42 #[r.agg, pt a.bc] w (Post X w A a kd N t (c.tell r, none)) := by
  obtain ⟨wa, hwa⟩ : ∃ wa, wa = w.alloc (.cells #[.bool r.ok, .string r.key, .int .u64 r.val, .int .i64 r.err] 71) := ⟨_, rfl⟩
  have hfa : Fr [] w wa := by rw [hwa]; exact (Fr.refl [] w).alloc _
  have ha := h.keep0 hfa
  have hnb : wa.heap[w.heap.size]? = some (.cells #[.bool r.ok, .string r.key, .int .u64 r.val, .int .i64 r.err] 71 (0, 0)) := by rw [hwa]; exact new_block w _
  have hcb := ha.call.cbk
  have hclt := lt_of_block h.call.cbk
  have n1 : ¬ a.cb = w.heap.size := by omega
  have n2 : ¬ w.heap.size = a.cb := by omega
  have HF : Hid (∀ W, Fr [a.cb] wa W → W.heap[a.cb]? = some (.cells (clV N r) 103 (0, 0)) → Post X w A a kd N t (c.tell r, none) (.returned .nilFunc) W) := Lib.hid (by
    intro W hf hb
    have hf2 : Fr (Both A a kd) w W := (hfa.mono (by simp)).trans hf (by intro x hx; simp only [List.mem_singleton] at hx; subst hx; exact Or.inl (List.mem_append_right _ (a.cb_in kd)))
    refine ⟨A, a, .nilFunc, rfl, ⟨ha.tree.keep (X := X) hf (hf.iv (mut_one hcb (imm_ty (by decide) (by decide)))) ?_, ha.call.told hf r hb, fun x hx => Nat.lt_of_lt_of_le (h.xs x hx) hf2.size⟩, rfl, hk, Ext.refl A, ⟨a.pv, rfl⟩, hf2, fun x hx => Or.inl hx⟩
    intro k hk hm
    simp only [List.mem_singleton] at hm
    subst hm
    exact ha.call.sep ha.tree _ (a.cb_in _) hk)
  have v0 := ha.call.ctx.vc.cell
  unfold CallB clV at hcb
  obtain ⟨c0, c1, c2, c3, c4, cf⟩ := cells5 hcb
  obtain ⟨r0, r1, r2, r3, _⟩ := cells4 hnb
  have g1 := cf 1
  have g2 := cf 2
  have g3 := cf 3
  have g4 := cf 4
  have HCB : Hid (wa.heap[a.cb]? = some (.cells #[N, .bool c.ans.ok, .string c.ans.key, .int .u64 c.ans.val, .int .i64 c.ans.err] 103 (0, 0))) := Lib.hid hcb
  have HWA := Lib.hid hwa
  unfold An.agg
  clear h ha hcb hnb cf hwa hfa
  go_enter Try.func42, Try.ntmps42
  go_upto_region 1 with fail
  rw [← HWA.out]
  go_wp2
  go_ret
  refine HF.out _ ?_ ?_
  · repeat (first | exact Fr.refl _ _ | (refine Fr.setCell ?_ (Or.inl (by simp)) _))
  · have := set_block (set_block (set_block (set_block HCB.out 1 (.bool r.ok)) 2 (.string r.key)) 3 (.int .u64 r.val)) 4 (.int .i64 r.err)
    simpa [clV] using this
end Go.Proofs.Ytmhiolhgofackaa
namespace Go.Proofs.Ytmhiolhgofackaa
open Go.RowKit
set_option linter.unusedVariables false
set_option linter.unusedSimpArgs false

theorem psV_len (A : TA) (l : List Ps) : (l.flatMap (psV A)).length = l.length * 3 := by
  induction l with
  | nil => rfl
  | cons p l ih => rw [List.flatMap_cons, List.length_append, ih]; simp [psV]; omega
theorem psV_get (A : TA) : ∀ (l : List Ps) (i j : Nat) (p : Ps), l[i]? = some p → j < 3 → (l.flatMap (psV A))[i * 3 + j]? = (psV A p)[j]?
  | q :: l, 0, j, p, h, hj => by
    simp at h; subst h
    rw [List.flatMap_cons, List.getElem?_append_left (by simp [psV]; omega)]
    simp
  | q :: l, i + 1, j, p, h, hj => by
    rw [List.flatMap_cons, List.getElem?_append_right (by simp [psV]; omega)]
    have : (i + 1) * 3 + j - (psV A q).length = i * 3 + j := by simp [psV]; omega
    rw [this]
    exact psV_get A l i j p (by simpa using h) hj
theorem WayAt.slice {w : World} {A : TA} {a : CA} {key : ByteArray} {lv : Value} {path : List Ps} (h : WayAt w A a key lv path) (hp : path ≠ []) : ∃ g cap, a.pv = .slice (some ⟨g, 0, none⟩) path.length cap ∧ g < w.heap.size ∧ g ≠ a.wb ∧ (∀ i p, path[i]? = some p →
    w.cell? ⟨g, i * 3, none⟩ = some (A.np p.node) ∧ w.cell? ⟨g, i * 3 + 1, none⟩ = some (.bool p.asked) ∧ w.cell? ⟨g, i * 3 + 2, none⟩ = some (.int .u64 p.seen)) ∧ (∀ o, w.frozen? ⟨g, o, none⟩ = false) := by
  rcases h.row.2 with ⟨_, hn⟩ | ⟨g, c, cur0, hv, _, hh0, hc, _⟩
  · exact absurd (List.length_eq_zero_iff.1 hn) hp
  · have hg := lt_of_block hh0
    have hr := h.row
    rw [hv] at hr
    have hcell := hr.cells (g := g) rfl
    have key : ∀ i p j u, path[i]? = some p → j < 3 → (psV A p)[j]? = some u → w.cell? ⟨g, i * 3 + j, none⟩ = some u := by
      intro i p j u hi hj hu
      have h2 := hcell (i * 3 + j) u (by rw [psV_get A path i j p hi hj]; exact hu)
      have hadd : (⟨g, 0, none⟩ : Addr).add (i * 3 + j) = ⟨g, i * 3 + j, none⟩ := by unfold Addr.add; split <;> simp_all
      rwa [hadd] at h2
    refine ⟨g, c, hv, hg, ?_, fun i p hi => ⟨by simpa using key i p 0 _ hi (by omega) rfl, key i p 1 _ hi (by omega) rfl, key i p 2 _ hi (by omega) rfl⟩, ?_⟩
    · rintro rfl
      rcases hr.2 with ⟨hx, _⟩ | ⟨g', cap, cur, hx, _, hh, _⟩
      · cases hx
      · cases hx
        have := h.blk
        rw [hh] at this; simp only [Option.some.injEq, Obj.cells.injEq] at this
        exact absurd this.2.1 (by decide)
    · intro o
      rcases hr.2 with ⟨hx, _⟩ | ⟨g', cap, cur, hx, _, hh, _⟩
      · cases hx
      · cases hx
        exact free_block hh o
theorem way_cells {w : World} {A : TA} {a : CA} {key : ByteArray} {lv : Value} {path : List Ps} (h : WayAt w A a key lv path) : w.cell? ⟨a.wb, 0, none⟩ = some (pt A.tb) ∧ w.cell? ⟨a.wb, 1, none⟩ = some (.string key) ∧ w.cell? ⟨a.wb, 2, none⟩ = some a.pv ∧ w.cell? ⟨a.wb, 3, none⟩ = some lv ∧ w.frozen? ⟨a.wb, 2, none⟩ = false := by
  obtain ⟨h0, h1, h2, h3, hf⟩ := cells4 h.blk
  exact ⟨h0, h1, h2, h3, hf 2⟩
set_option maxHeartbeats 1000000 in
theorem way_up (w : World) (A : TA) (a : CA) (key : ByteArray) (lv : Value) (path : List Ps) (n g cap : Nat) (h : WayAt w A a key lv path) (hn : n < path.length) (hl : path.length ≤ 1000000000) (hs : a.pv = .slice (some ⟨g, 0, none⟩) path.length cap) :
    Calls Try.prog 53 #[pt a.wb, .int .i64 n] w fun e w' => e = .returned (.pointer (some ⟨g, (path.length - 1 - n) * 3, none⟩)) ∧ Fr [] w w' := by
  obtain ⟨_, _, c2, _⟩ := way_cells h
  rw [hs] at c2
  obtain ⟨L, hL⟩ : ∃ L, L = path.length := ⟨_, rfl⟩
  rw [← hL] at c2 hn hl ⊢
  have e1 : IntKind.i64.wrap ((L : Int) - 1) = L - 1 := IntWalk.i64_in _ (by omega)
  have e2 : IntKind.i64.wrap ((L : Int) - 1 - n) = ((L - 1 - n : Nat) : Int) := by rw [IntWalk.i64_in _ (by omega)]; omega
  obtain ⟨K, hK⟩ : ∃ K, K = L - 1 - n := ⟨_, rfl⟩
  rw [← hK] at e2 ⊢
  have k0 : (0 : Int) ≤ K := by omega
  have k1 : (K : Int) < L := by omega
  have k2 : (K : Int).toNat = K := by omega
  clear h hs hL hn hl hK
  go_enter Try.func53, Try.ntmps53
  go_upto_region 1 with fail
  go_quiet (fail)
  go_wp2
  go_ret
  exact ⟨rfl, (Fr.refl [] w).drewN _⟩
theorem ps_slice : Try.prog.underlying 112 = some (.slice 117) := Try.underlying112
theorem ps_info : (Try.prog.info? 117).map (fun i => (i.zero, i.size, i.bytes)) = some (some (.agg #[.pointer none, .bool false, .int .u64 0]), 3, 24) := by kernel_rfl
theorem own_three (w : World) (e : TypeId) (x y z : Value) : (w.alloc (.cells #[x, y, z] e)).ownsRow 0 e 3 (.slice (some ⟨w.heap.size, 0, none⟩) 1 1) 1 [x, y, z] :=
  ⟨by simp, Or.inr ⟨_, _, _, rfl, Nat.zero_le _, new_block w _, Nat.le_refl _, by decide, by simp, by simp⟩⟩
/-- a way's nodes: how they lie is told by the slice alone -/
def Passed (w : World) (A : TA) (a : CA) (key : ByteArray) (lv : Value) (path : List Ps) (w' : World) : Prop :=
  ∃ pv, WayAt w' A { a with pv := pv } key lv path ∧ Fr (WayAt.foot a) w w' ∧ ∀ k, pv.ownBlock = some k → a.pv.ownBlock = some k ∨ w.heap.size ≤ k
theorem WayAt.ne {w : World} {A : TA} {a : CA} {key : ByteArray} {lv : Value} {path : List Ps} (h : WayAt w A a key lv path) : a.pv.ownBlock ≠ some a.wb := by
  intro hk
  rcases h.row.2 with ⟨hv, _⟩ | ⟨g, cap, cur, hv, _, hh, _⟩
  · rw [hv] at hk; cases hk
  · rw [hv] at hk; cases hk
    have := h.blk
    rw [hh] at this; simp only [Option.some.injEq, Obj.cells.injEq] at this
    exact absurd this.2.1 (by decide)
theorem WayAt.keep0 {w w' : World} {A : TA} {a : CA} {key : ByteArray} {lv : Value} {path : List Ps} (h : WayAt w A a key lv path) (hf : Fr [] w w') : WayAt w' A a key lv path :=
  ⟨hf.keep h.blk (by simp), ownsRow_fr hf h.row (by simp)⟩
theorem way_slice {w : World} {A : TA} {a : CA} {key : ByteArray} {lv : Value} {path : List Ps} (h : WayAt w A a key lv path) : ∃ s cap, a.pv = .slice s path.length cap := by
  rcases h.row.2 with ⟨hv, hn⟩ | ⟨g, cap, cur, hv, _⟩
  · exact ⟨none, 0, by rw [hv, hn]⟩
  · exact ⟨_, cap, hv⟩
/-- the slice is another one -/
theorem WayAt.setPv {w w1 : World} {A : TA} {a : CA} {key : ByteArray} {lv : Value} {path path' : List Ps} {pv : Value} (h : WayAt w A a key lv path) (hf : Fr a.pv.ownBlock.toList w w1) (hrow : w1.ownsRow 0 117 3 pv path'.length (path'.flatMap (psV A)))
    (hp : ∀ k, pv.ownBlock = some k → a.pv.ownBlock = some k ∨ w.heap.size ≤ k) : Passed w A a key lv path' (w1.setCell ⟨a.wb, 2, none⟩ pv) := by
  have hne := h.ne
  have hb := hf.keep h.blk (by simpa using hne)
  have hlt := lt_of_block h.blk
  refine ⟨pv, ⟨by simpa using set_block hb 2 pv, ownsRow_setCell_other hrow (a := ⟨a.wb, 2, none⟩) (fun e => (hp _ e).elim hne (fun h => by simp at h; omega)) pv⟩, ?_, hp⟩
  exact (hf.mono (fun k hk => Or.inl (by simp [WayAt.foot] at hk ⊢; exact Or.inr hk))).setCell (Or.inl (by simp [WayAt.foot])) _
set_option maxHeartbeats 2000000 in
theorem way_pass (w : World) (A : TA) (a : CA) (key : ByteArray) (lv : Value) (path : List Ps) (p b : Nat) (n : Nd) (h : WayAt w A a key lv path) (hl : path.length ≤ 1000000000) (hn : A.np p = pt b) (hb : NodB w b p n) (h0 : 0 ≤ n.cell) (h1 : n.cell ≤ 65536) (h2 : 2 ≤ p) (h3 : p ≤ 65536) (hbo : b ∉ WayAt.foot a) :
    Calls Try.prog 71 #[pt a.wb, pt b] w fun e w' => e = .returned (n.toward p key).agg ∧ Passed w A a key lv (path ++ [⟨p, false, 0⟩]) w' := by
  obtain ⟨s, cap, hs⟩ := way_slice h
  obtain ⟨wa, hwa⟩ : ∃ wa, wa = w.alloc (.cells #[.int .i64 0, .int .u64 0] 105) := ⟨_, rfl⟩
  have hfa : Fr [] w wa := by rw [hwa]; exact (Fr.refl [] w).alloc _
  have ha := h.keep0 hfa
  have hnb : wa.heap[w.heap.size]? = some (.cells #[.int .i64 0, .int .u64 0] 105 (0, 0)) := by rw [hwa]; exact new_block w _
  have hsz : w.heap.size < wa.heap.size := lt_of_block hnb
  have hwlt := lt_of_block h.blk
  have hrow1 : (wa.alloc (.cells #[pt b, .bool false, .int .u64 0] 117)).ownsRow 0 117 3 a.pv path.length (path.flatMap (psV A)) := (ha.keep0 ((Fr.refl [] wa).alloc _)).row
  obtain ⟨c0, c1, c2, c3, f2⟩ := way_cells ha
  rw [hs] at c2 hrow1
  have n1 : ¬ a.wb = wa.heap.size := by omega
  have n2 : ¬ wa.heap.size = a.wb := by omega
  have n3 : ¬ a.wb = w.heap.size := by omega
  have n4 : ¬ w.heap.size = a.wb := by omega
  have HTO : Hid (∀ W, NodB W b p n → Calls Try.prog 44 #[pt b, .string key] W fun e w' => e = .returned (n.toward p key).agg ∧ Fr [] W w') := Lib.hid fun W hW => nd_toward n p b key W hW h0 h1 h2 h3
  obtain ⟨T, hT⟩ : ∃ T, T = n.toward p key := ⟨_, rfl⟩
  rw [← hT] at HTO ⊢
  obtain ⟨tc, tf⟩ := T
  unfold Br.agg at *
  dsimp only at *
  have HA := Lib.hid ha
  have HFA := Lib.hid hfa
  have HWA := Lib.hid hwa
  have HNB := Lib.hid hnb
  have HB := Lib.hid hb
  have HBO := Lib.hid hbo
  have HR1 := Lib.hid hrow1
  have HS := Lib.hid hs
  have HNP := Lib.hid hn
  have HWO : Hid (a.pv.ownBlock ≠ some w.heap.size ∧ a.wb ≠ w.heap.size) := Lib.hid ⟨fun e => by have := (h.row.lt _ e).2; omega, fun e => by omega⟩
  clear h ha hnb hb hbo hrow1 hs hwa hT hn hfa
  go_enter Try.func71, Try.ntmps71
  go_upto_region 1 with fail
  rw [← HWA.out]
  go_wp2_with (at_builtin; refine wpList_append_fr rfl (.tmp 9) (.tmp 12) 112 117 (.agg #[.pointer none, .bool false, .int .u64 0]) 3 24 rfl ps_slice ps_info rfl (by decide) (.slice s path.length cap) path.length (path.flatMap (psV A)) rfl HR1.out _ 1 [pt b, .bool false, .int .u64 0] rfl (own_three _ _ _ _ _) (by intro y hy; simp at hy; rcases hy with rfl | rfl | rfl <;> rfl) (by unfold maxLen; omega) (by omega) ?app)
  case app =>
  intro v' w2 hown hfr hat
  have hown' : w2.ownsRow 0 117 3 v' (path ++ [⟨p, false, 0⟩] : List Ps).length ((path ++ [⟨p, false, 0⟩] : List Ps).flatMap (psV A)) := by
    have : (path ++ [⟨p, false, 0⟩] : List Ps).flatMap (psV A) = path.flatMap (psV A) ++ [pt b, .bool false, .int .u64 0] := by
      rw [List.flatMap_append]; simp [psV, HNP.out]
    rw [this]; simpa using hown
  have hF2 : Fr a.pv.ownBlock.toList wa w2 := by
    rw [HS.out]
    exact ((Fr.refl _ wa).alloc _).trans hfr (fun x hx => Or.inl hx)
  have hat' : ∀ k, v'.ownBlock = some k → a.pv.ownBlock = some k ∨ wa.heap.size ≤ k := fun k hk => by
    rw [HS.out]
    exact (hat k hk).imp id (fun h => by rw [h]; simp)
  have hpa := HA.out.setPv hF2 hown' hat'
  obtain ⟨w3, hw3⟩ : ∃ w3, w3 = w2.setCell ⟨a.wb, 2, none⟩ v' := ⟨_, rfl⟩
  rw [← hw3] at hpa
  have hb2 := hF2.keep HA.out.blk (by simpa using HA.out.ne)
  obtain ⟨_, _, d2, _, df⟩ := cells4 hb2
  have df2 := df 2
  have HPA := Lib.hid hpa
  have HW3 := Lib.hid hw3
  have hown2 := hown'.2
  rw [show (path ++ [⟨p, false, 0⟩] : List Ps).length = path.length + 1 by simp] at hown2
  rcases hown2 with ⟨rfl, hn⟩ | ⟨g, gc, cur, rfl, _⟩
  · simp at hn
  clear hown hfr hat hown' hF2 hat' hpa hw3 hb2 df c0 c1 c2 c3 f2
  go_upto_region 2 with fail
  rw [← HW3.out]
  obtain ⟨pv, hpw, hpf, hpn⟩ := HPA.out
  have HPW := Lib.hid hpw
  have HPF := Lib.hid (Fr.trans (T := WayAt.foot a) (HFA.out.mono (by simp) : Fr (WayAt.foot a) w wa) hpf (fun x hx => Or.inl hx))
  have HPN2 := Lib.hid hpn
  have HPN : Hid (∀ k, pv.ownBlock = some k → a.pv.ownBlock = some k ∨ w.heap.size ≤ k) := Lib.hid fun k hk => (hpn k hk).imp id (fun h => by omega)
  obtain ⟨c0, c1, c2, c3, f2⟩ := way_cells hpw
  have HN3 : Hid (NodB w3 b p n) := Lib.hid (HPF.out.keep HB.out HBO.out)
  have HR3 : Hid (w3.heap[w.heap.size]? = some (.cells #[.int .i64 0, .int .u64 0] 105 (0, 0))) := Lib.hid (hpf.keep HNB.out (by simp [WayAt.foot]; exact ⟨n4, HWO.out.1⟩))
  clear hpw hpf hpn d2 df2
  go_wp2_with (go_at_call 44; refine (HTO.out _ HN3.out).mono ?_; rintro e w4 ⟨rfl, hf⟩; have HF4 := Lib.hid hf; have HR4 := Lib.hid (hf.keep HR3.out (by simp)); obtain ⟨b0, b1, _⟩ := cells2 HR4.out; have g0 := free_block HR4.out 0; have g1 := free_block HR4.out 1; clear hf)
  refine bodyPost_ret (v := .agg #[.int .i64 tc, .int .u64 tf]) (by simp [results, Try.results71, go_sem, *]) rfl ⟨rfl, pv, ?_, ?_, HPN.out⟩
  · have hf : Fr [w.heap.size] w3 ((w4.setCell ⟨w.heap.size, 0, none⟩ (.int .i64 tc)).setCell ⟨w.heap.size, 1, none⟩ (.int .u64 tf)) := ((HF4.out.mono (by simp)).setCell (Or.inl (by simp)) _).setCell (Or.inl (by simp)) _
    refine ⟨hf.keep HPW.out.blk (by simp; exact n3), ownsRow_fr hf HPW.out.row (fun k hk => ?_)⟩
    simp only [List.mem_singleton]
    rintro rfl
    exact (HPN2.out _ hk).elim HWO.out.1 (fun h => by omega)
  · exact ((HPF.out.trans (T := []) HF4.out (by simp)).setCell (Or.inr (Nat.le_refl _)) _).setCell (Or.inr (Nat.le_refl _)) _
end Go.Proofs.Ytmhiolhgofackaa
namespace Go.Proofs.Ytmhiolhgofackaa
open Go.RowKit
set_option linter.unusedVariables false
set_option linter.unusedSimpArgs false

theorem CA.way_in {a : CA} {kd : Kd} (e : kd = .ins ∨ kd = .rem) : ∀ k ∈ WayAt.foot a, k ∈ a.foot kd := by
  intro k hk; rcases e with rfl | rfl <;> simp [CA.foot, hk]
theorem CallM.passed {X : List Nat} {w w' : World} {A : TA} {a : CA} {c : Cl} {N : Value} {path : List Ps} {lv : Value} (h : CallM X w A a c N) (hk : c.kd = .ins ∨ c.kd = .rem) (hlv : lv = leafV a c.kd .way) (hp : Passed w A a c.key lv path w') :
    ∃ pv, CallM X w' A { a with pv := pv } { c with path := path } N ∧ Fr (WayAt.foot a) w w' ∧ ∀ k, pv.ownBlock = some k → a.pv.ownBlock = some k ∨ w.heap.size ≤ k := by
  subst hlv
  obtain ⟨pv, h1, h2, h3⟩ := hp
  have hw := h.way hk
  have hm : Mut X w (WayAt.foot a) := h.mut.sub (CA.way_in hk)
  have hi := h2.iv hm
  have ne : ∀ k cur T f, w.heap[k]? = some (.cells cur T f) → T ≠ 114 → T ≠ 117 → k ∉ WayAt.foot a := by
    intro k cur T f hkk hT hT2 hmm
    simp [WayAt.foot] at hmm
    rcases hmm with rfl | hmm
    · have := hw.blk
      rw [hkk] at this; simp only [Option.some.injEq, Obj.cells.injEq] at this
      exact hT this.2.1
    · rcases hw.row.2 with ⟨hv, _⟩ | ⟨g, cap, cur', hv, _, hh, _⟩
      · rw [hv] at hmm; cases hmm
      · rw [hv] at hmm; cases hmm
        rw [hkk] at hh; simp only [Option.some.injEq, Obj.cells.injEq] at hh
        exact hT2 hh.2.1
  refine ⟨pv, ⟨?_, h2.keep h.cbk (ne _ _ _ _ h.cbk (by decide) (by decide)), fun e => h1, fun e => h2.keep (h.full e) (ne _ _ _ _ (h.full e) (by decide) (by decide)), fun e => ?_⟩, h2, h3⟩
  · have := h.ctx.keep hi
    exact ⟨this.vc, this.vt, this.vk, this.vx, this.vw, this.v2, this.v7, this.vf⟩
  · rcases hk with e2 | e2 <;> (dsimp only at e; rw [e2] at e; cases e)
theorem Cf.passed {X : List Nat} {w w' : World} {A : TA} {a : CA} {t : Tr} {c : Cl} {N : Value} {path : List Ps} {lv : Value} (h : Cf X w A a t c N) (hk : c.kd = .ins ∨ c.kd = .rem) (hlv : lv = leafV a c.kd .way) (hp : Passed w A a c.key lv path w') :
    ∃ pv, Cf X w' A { a with pv := pv } t { c with path := path } N ∧ Fr (WayAt.foot a) w w' ∧ Fr (Both A a c.kd) w w' ∧ ∀ x ∈ Both A { a with pv := pv } c.kd, x ∈ Both A a c.kd ∨ w.heap.size ≤ x := by
  obtain ⟨pv, h1, h2, h3⟩ := h.call.passed hk hlv hp
  have hff : Fr (a.foot c.kd) w w' := h2.mono (fun k hk' => Or.inl (CA.way_in hk k hk'))
  refine ⟨pv, ⟨h.tree.keep (X := X) hff (hff.iv h.call.mut) (fun k hk hm => h.call.sep h.tree k hm hk), h1, fun x hx => Nat.lt_of_lt_of_le (h.xs x hx) h2.size⟩, h2, hff.mono (fun k hk => Or.inl (List.mem_append_right _ hk)), fun x hx => ?_⟩
  rcases List.mem_append.1 hx with hx | hx
  · exact Or.inl (List.mem_append_left _ hx)
  · exact (foot_pv h3 x hx).imp (List.mem_append_right _) id
theorem ownsRow_cut {w : World} {base e size n m g cap : Nat} {xs : List Value} (h : w.ownsRow base e size (.slice (some ⟨g, 0, none⟩) n cap) n xs) (hm : m ≤ n) : w.ownsRow base e size (.slice (some ⟨g, 0, none⟩) m cap) m (xs.take (m * size)) := by
  obtain ⟨h1, h2⟩ := h
  refine ⟨by rw [List.length_take, h1]; exact Nat.min_eq_left (Nat.mul_le_mul_right _ hm), ?_⟩
  rcases h2 with ⟨h, _⟩ | ⟨g', c', cur, hv, hg, hh, h5, h6, h7, h8⟩
  · cases h
  · cases hv
    refine Or.inr ⟨g, cap, cur, rfl, hg, hh, by omega, h6, h7, ?_⟩
    rw [← h8, List.take_take, Nat.min_eq_left (Nat.mul_le_mul_right _ hm)]
theorem flat_take (A : TA) : ∀ (l : List Ps) (m : Nat), (l.take m).flatMap (psV A) = (l.flatMap (psV A)).take (m * 3)
  | [], m => by simp
  | p :: l, 0 => by simp
  | p :: l, m + 1 => by
    rw [List.take_succ_cons, List.flatMap_cons, List.flatMap_cons, flat_take A l m, List.take_append]
    have h1 : (psV A p).take ((m + 1) * 3) = psV A p := List.take_of_length_le (by simp [psV]; omega)
    have h2 : (m + 1) * 3 - (psV A p).length = m * 3 := by simp [psV]; omega
    rw [h1, h2]
theorem WayAt.cutd {w : World} {A : TA} {a : CA} {key : ByteArray} {lv : Value} {path : List Ps} {g cap : Nat} (h : WayAt w A a key lv path) (hs : a.pv = .slice (some ⟨g, 0, none⟩) path.length cap) (m : Nat) (hm : m ≤ path.length) :
    Passed w A a key lv (path.take m) (w.setCell ⟨a.wb, 2, none⟩ (.slice (some ⟨g, 0, none⟩) m cap)) := by
  refine h.setPv (Fr.refl _ w) ?_ (by intro k hk; rw [hs]; exact Or.inl hk)
  have hr := h.row
  rw [hs] at hr
  have := ownsRow_cut hr hm
  rw [List.length_take, Nat.min_eq_left hm, flat_take]
  exact this
set_option maxHeartbeats 2000000 in
theorem bt_anew {X : List Nat} {w : World} {A : TA} {a : CA} {t : Tr} {c : Cl} {N : Value} {kd : Kd} (h : Cf X w A a t c N) (hk : c.kd = kd) (hkd : kd = .ins ∨ kd = .rem) (n : Nat) (hn : n ≤ c.path.length) (hp : c.path ≠ []) (hl : c.path.length ≤ 1000000000) :
    Calls Try.prog 60 #[pt a.wb, .int .i64 n] w (Post X w A a kd N t (c.cut n, some .look)) := by
  subst hk
  have hw := h.call.way hkd
  obtain ⟨g, cap, hs, _⟩ := hw.slice hp
  obtain ⟨w1, hw1⟩ : ∃ w1, w1 = (w.setCell ⟨a.wb, 2, none⟩ (.slice (some ⟨g, 0, none⟩) (c.path.length - n) cap)).drew := ⟨_, rfl⟩
  obtain ⟨pv, hc, hf, hf2, hf3⟩ := h.passed hkd rfl (hw.cutd hs (c.path.length - n) (by omega))
  have hf2' : Fr (Both A a c.kd) w w1 := by rw [hw1]; exact hf2.drew
  have hc' := hc.keep0 (Fr.refl [] _).drew
  rw [← hw1] at hc'
  have hlk := bt_look hc' (kd := c.kd) rfl
  have HLK : Hid (Calls Try.prog 78 #[pt a.wb] w1 (Post X w A a c.kd N t (c.cut n, some .look))) := Lib.hid (hlk.mono fun e w' hp => hp.trans (Ext.refl A) ⟨pv, rfl⟩ hf2' hf3)
  obtain ⟨_, _, c2, _, f2⟩ := way_cells hw
  rw [hs] at c2
  have HW1 := Lib.hid hw1
  have e1 : IntKind.i64.wrap ((c.path.length : Int) - n) = ((c.path.length - n : Nat) : Int) := by rw [IntWalk.i64_in _ (by omega)]; omega
  have hcap : c.path.length ≤ cap := by
    rcases hw.row.2 with ⟨hv, _⟩ | ⟨g', c', cur, hv, _, _, h5, _⟩
    · rw [hs] at hv; cases hv
    · rw [hs] at hv; cases hv; omega
  have kk : c.path.length ≤ cap + n := by omega
  have k0 : (0 : Int) ≤ ((c.path.length - n : Nat) : Int) := by omega
  have k1 : ((c.path.length - n : Nat) : Int) ≤ cap := by omega
  clear h hw hs hc hc' hf hf2 hf2' hf3 hlk hw1 hkd hp
  go_enter Try.func60, Try.ntmps60
  go_upto_region 1 with fail
  go_region
  go_upto_region 2 with fail
  rw [← HW1.out]
  go_wp2_with (go_at_call 78; refine HLK.out.mono ?_; rintro e w2 hp2; obtain ⟨V, rfl, HRR⟩ := hp2.ret; clear hp2)
  go_ret
  exact HRR.out
end Go.Proofs.Ytmhiolhgofackaa
namespace Go.Proofs.Ytmhiolhgofackaa
open Go.RowKit
set_option linter.unusedVariables false
set_option linter.unusedSimpArgs false

/-- what a word says can be helped -/
def HlpOk (t : Tr) (wd : Int) : Prop := t.live (wd / 4).toNat = true → 1 ≤ (wd / 4).toNat ∧ (wd / 4).toNat ≤ t.ws.length ∧ (wd % 4 = 1 → ∃ p, (t.wk (wd / 4).toNat).next = some p)
def lookV (a : CA) : Value := .func (.func 78) #[pt a.wb] #[]
theorem zero_wk (w : World) : (zeroValue 115).run Try.prog w = .ok (.pointer none) w := by kernel_rfl
set_option maxHeartbeats 2000000 in
theorem bt_help {X : List Nat} {w : World} {A : TA} {a : CA} {t : Tr} {c : Cl} {N : Value} {kd : Kd} (h : Cf X w A a t c N) (hk : c.kd = kd) (wd : Int) (hu : IsU wd) (hh : HlpOk t wd) (hw : t.ws.length ≤ 1000000000) :
    Calls Try.prog 77 #[pt A.tb, .int .u64 wd, lookV a] w (Post X w A a kd N t (c.help t wd .look)) := by
  subst hk
  obtain ⟨u0, u1⟩ := hu
  have HI : Hid (∀ W, Calls Try.prog 87 #[.int .u64 wd] W fun e w' => e = .returned (.int .i64 (wd / 4)) ∧ Fr [] W w') := Lib.hid fun W => (wd_info wd W ⟨u0, u1⟩).mono fun e w' he => ⟨he.1, by rw [he.2]; exact Fr.refl _ _⟩
  have HST : Hid (∀ W, Calls Try.prog 75 #[.int .u64 wd] W fun e w' => e = .returned (.int .i64 (wd % 4)) ∧ W = w') := Lib.hid fun W => wd_state wd W ⟨u0, u1⟩
  obtain ⟨o, ho⟩ : ∃ o, o = (wd / 4).toNat := ⟨_, rfl⟩
  unfold HlpOk at hh
  have hg : worksG A t (wd / 4) = if t.live o = true then some (A.wp o) else none := by
    unfold worksG
    rw [← ho]
    by_cases hl : t.live o = true
    · have := (hh (by rw [← ho]; exact hl)).1
      rw [if_pos hl, if_pos ⟨by omega, hl⟩]
    · rw [if_neg hl, if_neg (fun e => hl e.2)]
  obtain ⟨I, hI⟩ : ∃ I, I = wd / 4 := ⟨_, rfl⟩
  have hlk : ∀ n : After [] w, (Instr.lookup 43 (.map (some A.mp)) (.int .i64 I) false).run Try.prog n.now = .ok (if t.live o = true then A.wp o else .pointer none) n.now := by
    intro n
    have := (h.tree.keep0 n.fr).map.look (t := 43) (E := 115) KI wk_map (zero_wk _) rfl (e := wd / 4) (WalkArith.wf_i64 (by omega))
    rw [hg] at this
    rw [hI]
    simp only [intD] at this
    rw [this]
    split <;> rfl
  have hhelp : c.help t wd .look = if t.live o = true then (if wd % 4 = 1 then (c, some (.take o ((t.wk o).next.getD 0) .look)) else if wd % 4 = 2 then (c, some (.mark o .look .look)) else (c, some (.drop o .look))) else (c, some .look) := by
    unfold Cl.help
    rw [← ho]
    rfl
  rw [hhelp]
  rw [← ho] at hh
  rw [← hI] at HI
  obtain ⟨S, hS⟩ : ∃ S, S = wd % 4 := ⟨_, rfl⟩
  rw [← hS] at HST hh ⊢
  obtain ⟨_, _, _, q3', _⟩ := tree_cells h.tree.toTreeB
  have q3 : ∀ n : After [] w, n.now.cell? ⟨A.tb, 3, none⟩ = some (.map (some A.mp)) := fun n => n.cell q3' (by simp)
  have H := Lib.hid h
  have HTH : Hid (∀ W, ThAt X W A a c.kd (lookV a) .look) := Lib.hid fun W => rfl
  unfold lookV at *
  cases hl : t.live o
  · rw [hl] at hlk
    simp only [Bool.false_eq_true, if_false] at hlk ⊢
    have HLK : Hid (∀ W, Fr [] w W → Calls Try.prog 78 #[pt a.wb] W (Post X w A a c.kd N t (c, some .look))) := Lib.hid fun W hW => (bt_look (H.out.keep0 hW) rfl).mono fun e w' hp => hp.after0 hW
    clear h hh hg hhelp hl ho hI hS u0 u1 q3'
    go_enter Try.func77, Try.ntmps77
    go_upto_region 1 with fail
    refine wp_region_after [] (by kernel_rfl) (by kernel_rfl) ?_
    repeat (go_big_quiet_step ((go_at_call 87; exact After.quiet (HI.out _))))
    refine wpQuiet_nil ?_
    rintro _ ⟨nq, rfl⟩
    go_wp2_with (go_at_call 78; refine (HLK.out _ nq.fr).mono ?_; rintro e w2 hp2; obtain ⟨V, rfl, HRR⟩ := hp2.ret; clear hp2)
    go_ret
    exact HRR.out
  · rw [hl] at hlk
    have h1 := hh hl
    simp only [if_true] at hlk ⊢
    have HW : Hid (∀ W, Fr [] w W → WkB W A (A.wb.getD (o - 1) 0) o (t.wk o)) := Lib.hid fun W hW => by
      obtain ⟨b, hb1, hb2⟩ := (H.out.tree.keep0 hW).work h1.1 h1.2.1
      have : A.wb.getD (o - 1) 0 = b := by unfold TA.wp at hb1; simpa using hb1
      rw [this]; exact hb2
    have HTK : Hid (∀ W n th, Fr [] w W → th = Th.look → Calls Try.prog 57 #[pt A.tb, A.wp o, A.np n, .func (.func 78) #[pt a.wb] #[]] W (Post X w A a c.kd N t (c, some (.take o n th)))) := Lib.hid fun W n th hW ht => (bt_take (H.out.keep0 hW) rfl o n th _ (by rw [ht]; exact HTH.out W)).mono fun e w' hp => hp.after0 hW
    have HMK : Hid (∀ W, Fr [] w W → Calls Try.prog 88 #[pt A.tb, A.wp o, .func (.func 78) #[pt a.wb] #[], .func (.func 78) #[pt a.wb] #[]] W (Post X w A a c.kd N t (c, some (.mark o .look .look)))) := Lib.hid fun W hW => (bt_mark (H.out.keep0 hW) rfl o .look .look _ _ (HTH.out W) (HTH.out W)).mono fun e w' hp => hp.after0 hW
    have HDR : Hid (∀ W, Fr [] w W → Calls Try.prog 89 #[pt A.tb, A.wp o, .func (.func 78) #[pt a.wb] #[]] W (Post X w A a c.kd N t (c, some (.drop o .look)))) := Lib.hid fun W hW => (bt_drop (H.out.keep0 hW) rfl o .look _ (HTH.out W)).mono fun e w' hp => hp.after0 hW
    have hnx := h1.2.2
    unfold TA.wp at *
    obtain ⟨ob, hob⟩ : ∃ b, b = A.wb.getD (o - 1) 0 := ⟨_, rfl⟩
    rw [← hob] at hlk HW HTK HMK HDR
    have HNX := Lib.hid hnx
    clear h hh hg hhelp hl ho hI hS u0 u1 q3' h1 hob hnx
    by_cases s1 : S = 1
    · have t1 : (S == 1) = true := by simpa using s1
      obtain ⟨p, hp⟩ := HNX.out s1
      rw [if_pos s1, hp, Option.getD_some]
      have HP := Lib.hid hp
      clear s1 hp
      go_enter Try.func77, Try.ntmps77
      go_upto_region 1 with fail
      refine wp_region_after [] (by kernel_rfl) (by kernel_rfl) ?_
      repeat (go_big_quiet_step ((go_at_call 87; exact After.quiet (HI.out _))))
      refine wpQuiet_nil ?_
      rintro _ ⟨nq, rfl⟩
      clear hlk q3
      obtain ⟨_, _, _, _, _, z5, _⟩ := wk_cells (HW.out _ nq.fr)
      rw [HP.out] at z5
      go_wp2_with (first | (go_at_call 75; refine (HST.out _).mono ?_; rintro e w3 ⟨rfl, rfl⟩) | (go_at_call 57; refine (HTK.out _ p _ nq.fr rfl).mono ?_; rintro e w2 hp2; obtain ⟨V, rfl, HRR⟩ := hp2.ret; clear hp2))
      go_ret
      exact HRR.out
    · have t1 : (S == 1) = false := by simpa using s1
      rw [if_neg s1]
      clear s1
      by_cases s2 : S = 2
      · have t2 : (S == 2) = true := by simpa using s2
        rw [if_pos s2]
        clear s2
        go_enter Try.func77, Try.ntmps77
        go_upto_region 1 with fail
        refine wp_region_after [] (by kernel_rfl) (by kernel_rfl) ?_
        repeat (go_big_quiet_step ((go_at_call 87; exact After.quiet (HI.out _))))
        refine wpQuiet_nil ?_
        rintro _ ⟨nq, rfl⟩
        clear hlk q3
        go_wp2_with (first | (go_at_call 75; refine (HST.out _).mono ?_; rintro e w3 ⟨rfl, rfl⟩) | (go_at_call 88; refine (HMK.out _ nq.fr).mono ?_; rintro e w2 hp2; obtain ⟨V, rfl, HRR⟩ := hp2.ret; clear hp2))
        go_ret
        exact HRR.out
      · have t2 : (S == 2) = false := by simpa using s2
        rw [if_neg s2]
        clear s2
        go_enter Try.func77, Try.ntmps77
        go_upto_region 1 with fail
        refine wp_region_after [] (by kernel_rfl) (by kernel_rfl) ?_
        repeat (go_big_quiet_step ((go_at_call 87; exact After.quiet (HI.out _))))
        refine wpQuiet_nil ?_
        rintro _ ⟨nq, rfl⟩
        clear hlk q3
        go_wp2_with (first | (go_at_call 75; refine (HST.out _).mono ?_; rintro e w3 ⟨rfl, rfl⟩) | (go_at_call 89; refine (HDR.out _ nq.fr).mono ?_; rintro e w2 hp2; obtain ⟨V, rfl, HRR⟩ := hp2.ret; clear hp2))
        go_ret
        exact HRR.out
end Go.Proofs.Ytmhiolhgofackaa
namespace Go.Proofs.Ytmhiolhgofackaa
open Go.RowKit
set_option linter.unusedVariables false
set_option linter.unusedSimpArgs false

theorem ownsRow_setAny {w : World} {base e n g size : Nat} {c : Nat} {xs : List Value} (ho : w.ownsRow base e size (.slice (some ⟨g, 0, none⟩) n c) n xs) (j : Nat) (u : Value) :
    (w.setCell ⟨g, j, none⟩ u).ownsRow base e size (.slice (some ⟨g, 0, none⟩) n c) n (xs.set j u) := by
  obtain ⟨h1, h2⟩ := ho
  refine ⟨by simpa using h1, ?_⟩
  rcases h2 with ⟨h, _⟩ | ⟨g', cap, cur, hv, hg, hh, h5, h6, h7, h8⟩
  · cases h
  · simp only [Value.slice.injEq, Option.some.injEq, Addr.mk.injEq, and_true, true_and] at hv
    obtain ⟨rfl, rfl⟩ := hv
    refine Or.inr ⟨g, c, cur.setIfInBounds j u, rfl, hg, set_block hh j u, h5, h6, by simpa using h7, ?_⟩
    rw [← h8, Array.toList_setIfInBounds, List.take_set]
theorem flat_saw (A : TA) : ∀ (l : List Ps) (k : Nat) (p : Ps) (b : Bool) (s : Int), l[k]? = some p → (l.set k ⟨p.node, b, s⟩).flatMap (psV A) = ((l.flatMap (psV A)).set (k * 3 + 1) (.bool b)).set (k * 3 + 2) (.int .u64 s)
  | q :: l, 0, p, b, s, h => by
    simp at h; subst h
    rw [List.set_cons_zero, List.flatMap_cons, List.flatMap_cons]
    simp [psV]
  | q :: l, k + 1, p, b, s, h => by
    rw [List.set_cons_succ, List.flatMap_cons, List.flatMap_cons, flat_saw A l k p b s (by simpa using h)]
    rw [List.set_append_right _ _ (by simp [psV]; omega), List.set_append_right _ _ (by simp [psV]; omega)]
    have h1 : (k + 1) * 3 + 1 - (psV A q).length = k * 3 + 1 := by simp [psV]; omega
    have h2 : (k + 1) * 3 + 2 - (psV A q).length = k * 3 + 2 := by simp [psV]; omega
    rw [h1, h2]
theorem Cl.up_get (c : Cl) (n : Nat) (h : n < c.path.length) : c.path[c.path.length - 1 - n]? = some (c.up n) := by
  unfold Cl.up
  rw [List.getD_eq_getElem?_getD, List.getElem?_eq_getElem (by omega)]; rfl
theorem WayAt.sawd {w : World} {A : TA} {a : CA} {key : ByteArray} {lv : Value} {c : Cl} {g cap : Nat} (h : WayAt w A a key lv c.path) (hs : a.pv = .slice (some ⟨g, 0, none⟩) c.path.length cap) (hp : c.path ≠ []) (was : Int) :
    Passed w A a key lv (c.saw was).path ((w.setCell ⟨g, (c.path.length - 1) * 3 + 1, none⟩ (.bool true)).setCell ⟨g, (c.path.length - 1) * 3 + 2, none⟩ (.int .u64 was)) := by
  have hlen : 0 < c.path.length := List.length_pos_iff.2 hp
  have hne := h.ne
  rw [hs] at hne
  have hg : g ≠ a.wb := by simpa [Value.ownBlock] using hne
  have hr := h.row
  rw [hs] at hr
  refine ⟨a.pv, ⟨set_other (set_other h.blk hg.symm _ _) hg.symm _ _, ?_⟩, ?_, fun k hk => Or.inl hk⟩
  · have := ownsRow_setAny (ownsRow_setAny hr ((c.path.length - 1) * 3 + 1) (.bool true)) ((c.path.length - 1) * 3 + 2) (.int .u64 was)
    rw [← flat_saw A c.path (c.path.length - 1) (c.up 0) true was (by have := c.up_get 0 hlen; simpa using this)] at this
    rw [hs]
    simpa [Cl.saw] using this
  · have hin : g ∈ WayAt.foot a := by rw [WayAt.foot, hs]; simp [Value.ownBlock]
    exact ((Fr.refl _ w).setCell (Or.inl hin) _).setCell (Or.inl hin) _
set_option maxHeartbeats 4000000 in
theorem bt_met {X : List Nat} {w : World} {A : TA} {a : CA} {t : Tr} {c : Cl} {N : Value} {kd : Kd} (h : Cf X w A a t c N) (hk : c.kd = kd) (hkd : kd = .ins ∨ kd = .rem) (wd : Int) (hu : IsU wd) (hh : HlpOk t wd) (hw : t.ws.length ≤ 1000000000) (hp : c.path ≠ []) (hl : c.path.length ≤ 1000000000) :
    Calls Try.prog 55 #[pt a.wb, .int .u64 wd] w (Post X w A a kd N t (c.met t wd)) := by
  subst hk
  have HST : Hid (∀ W, Calls Try.prog 75 #[.int .u64 wd] W fun e w' => e = .returned (.int .i64 (wd % 4)) ∧ W = w') := Lib.hid fun W => wd_state wd W hu
  have hway := h.call.way hkd
  obtain ⟨g, cap, hs, hglt, hgw, hcell, hfree⟩ := hway.slice hp
  have hlen : 0 < c.path.length := List.length_pos_iff.2 hp
  obtain ⟨d0, d1, d2, d3, df⟩ := way_cells hway
  unfold Cl.met
  by_cases s0 : wd % 4 = 0
  · rw [if_pos s0]
    rw [s0] at HST
    have hpu := c.up_get 0 hlen
    simp only [Nat.sub_zero] at hpu
    obtain ⟨e0, e1, e2⟩ := hcell _ _ hpu
    have f1 := hfree ((c.path.length - 1) * 3 + 1)
    have f2 := hfree ((c.path.length - 1) * 3 + 2)
    have HUP : Hid (Calls Try.prog 53 #[pt a.wb, .int .i64 0] w fun e w' => e = .returned (.pointer (some ⟨g, (c.path.length - 1) * 3, none⟩)) ∧ Fr [] w w') := Lib.hid (by have := way_up w A a c.key _ c.path 0 g cap hway hlen hl hs; simpa using this)
    have hup2 : ∀ W, Fr [] w W → Calls Try.prog 53 #[pt a.wb, .int .i64 0] W fun e w' => e = .returned (.pointer (some ⟨g, (c.path.length - 1) * 3, none⟩)) ∧ Fr [] W w' := fun W hW => by have := way_up W A a c.key _ c.path 0 g cap (hway.keep0 hW) hlen hl hs; simpa using this
    have HUP2 := Lib.hid hup2
    have HDN : Hid (∀ W, Fr [] w W → Calls Try.prog 76 #[pt a.wb] ((W.setCell ⟨g, (c.path.length - 1) * 3 + 1, none⟩ (.bool true)).setCell ⟨g, (c.path.length - 1) * 3 + 2, none⟩ (.int .u64 wd)) (Post X w A a c.kd N t (c.saw wd, some .down))) := Lib.hid (by
      intro W hW
      obtain ⟨pv, k1, _, k2, k3⟩ := (h.keep0 hW).passed hkd rfl ((hway.keep0 hW).sawd hs hp wd)
      have hsz := hW.size
      exact (bt_down k1 (kd := c.kd) rfl).mono fun e w' hq => hq.trans (Ext.refl A) ⟨pv, rfl⟩ ((hW.mono (by simp) : Fr (Both A a c.kd) w W).trans k2 (fun x hx => Or.inl hx)) (fun x hx => (k3 x hx).imp id (fun h => by omega)))
    have HFR : Hid (∀ o, w.frozen? ⟨g, o, none⟩ = false) := Lib.hid hfree
    have HE1 : Hid (∀ W, Fr [] w W → W.cell? ⟨g, (c.path.length - 1) * 3 + 1, none⟩ = some (.bool (c.up 0).asked) ∧ W.cell? ⟨g, (c.path.length - 1) * 3 + 2, none⟩ = some (.int .u64 (c.up 0).seen) ∧ W.frozen? ⟨g, (c.path.length - 1) * 3 + 1, none⟩ = false ∧ W.frozen? ⟨g, (c.path.length - 1) * 3 + 2, none⟩ = false) := Lib.hid (by
      intro W hW
      obtain ⟨g', cap', hs', _, _, hcell', hfree'⟩ := (hway.keep0 hW).slice hp
      rw [hs] at hs'; cases hs'
      obtain ⟨_, x1, x2⟩ := hcell' _ _ hpu
      exact ⟨x1, x2, hfree' _, hfree' _⟩)
    clear h hu hh hway hs hcell hfree hpu hup2 e0 e1 e2 f1 f2 d0 d1 d2 d3 df hkd hp
    go_enter Try.func55, Try.ntmps55
    go_wp2_with (first | (go_at_call 75; refine (HST.out _).mono ?_; rintro e w3 ⟨rfl, rfl⟩) | (go_at_call 53; refine HUP.out.mono ?_; rintro e w3 ⟨rfl, hf3⟩; refine go_stop ?_))
    unfold Stop
    have HF3 := Lib.hid hf3
    have HUP3 := Lib.hid (HUP2.out _ hf3)
    clear hf3
    go_wp2_with (go_at_call 53; refine HUP3.out.mono ?_; rintro e w4 ⟨rfl, hf4⟩; refine go_stop ?_)
    unfold Stop
    have hf4' := HF3.out.trans (T := []) hf4 (by simp)
    have HF4 := Lib.hid hf4'
    obtain ⟨x1, x2, x3, x4⟩ := HE1.out _ hf4'
    clear hf4 hf4'
    go_wp2_with (go_at_call 76; refine (HDN.out _ HF4.out).mono ?_; rintro e w2 hp2; obtain ⟨V, rfl, HRR⟩ := hp2.ret; clear hp2)
    go_ret
    exact HRR.out
  · rw [if_neg s0]
    by_cases s3 : wd % 4 = 3
    · rw [if_pos s3]
      rw [s3] at HST
      have hcap : c.path.length ≤ cap := by
        rcases hway.row.2 with ⟨hv, _⟩ | ⟨g', c', cur, hv, _, _, h5, _⟩
        · rw [hs] at hv; cases hv
        · rw [hs] at hv; cases hv; omega
      obtain ⟨w1, hw1⟩ : ∃ w1, w1 = (w.setCell ⟨a.wb, 2, none⟩ (.slice (some ⟨g, 0, none⟩) (c.path.length - 1) cap)).drew := ⟨_, rfl⟩
      obtain ⟨pv, hc, hf, hf2, hf3⟩ := h.passed hkd rfl (hway.cutd hs (c.path.length - 1) (by omega))
      have hf2' : Fr (Both A a c.kd) w w1 := by rw [hw1]; exact hf2.drew
      have hc' := hc.keep0 (Fr.refl [] _).drew
      rw [← hw1] at hc'
      have hlk := bt_help hc' (kd := c.kd) rfl wd hu hh hw
      have HLK : Hid (Calls Try.prog 77 #[pt A.tb, .int .u64 wd, .func (.func 78) #[pt a.wb] #[]] w1 (Post X w A a c.kd N t ((c.cut 1).help t wd .look))) := Lib.hid (hlk.mono fun e w' hp => hp.trans (Ext.refl A) ⟨pv, rfl⟩ hf2' hf3)
      have hb1 : w1.heap[a.wb]? = _ := hc'.call.way hkd |>.blk
      have k0' := cell_block hb1 0
      simp at k0'
      rw [hs] at d2
      have HW1 := Lib.hid hw1
      have e1 : IntKind.i64.wrap ((c.path.length : Int) - 1) = ((c.path.length - 1 : Nat) : Int) := by rw [IntWalk.i64_in _ (by omega)]; omega
      have kk : c.path.length ≤ cap + 1 := by omega
      have k0 : (0 : Int) ≤ ((c.path.length - 1 : Nat) : Int) := by omega
      have k1 : ((c.path.length - 1 : Nat) : Int) ≤ cap := by omega
      clear h hu hh hway hs hcell hfree hkd hp hc hc' hf hf2 hf2' hf3 hlk hb1 hw1 s0 s3
      go_enter Try.func55, Try.ntmps55
      go_wp2_with (go_at_call 75; refine (HST.out _).mono ?_; rintro e w3 ⟨rfl, rfl⟩)
      go_region
      go_upto_region 7 with fail
      rw [← HW1.out]
      go_wp2_with (go_at_call 77; refine HLK.out.mono ?_; rintro e w2 hp2; obtain ⟨V, rfl, HRR⟩ := hp2.ret; clear hp2)
      go_ret
      exact HRR.out
    · rw [if_neg s3]
      have t0 : (wd % 4 == 0) = false := by simpa using s0
      have t3 : (wd % 4 == 3) = false := by simpa using s3
      have hlk := bt_help h (kd := c.kd) rfl wd hu hh hw
      have HLK : Hid (Calls Try.prog 77 #[pt A.tb, .int .u64 wd, .func (.func 78) #[pt a.wb] #[]] w (Post X w A a c.kd N t (c.help t wd .look))) := Lib.hid hlk
      obtain ⟨S, hS⟩ : ∃ S, S = wd % 4 := ⟨_, rfl⟩
      rw [← hS] at HST t0 t3
      clear h hu hh hway hs hcell hfree hkd hp hlk s0 s3 hS
      go_enter Try.func55, Try.ntmps55
      go_wp2_with (first | (go_at_call 75; refine (HST.out _).mono ?_; rintro e w3 ⟨rfl, rfl⟩) | (go_at_call 77; refine HLK.out.mono ?_; rintro e w2 hp2; obtain ⟨V, rfl, HRR⟩ := hp2.ret; clear hp2))
      go_ret
      exact HRR.out
end Go.Proofs.Ytmhiolhgofackaa
