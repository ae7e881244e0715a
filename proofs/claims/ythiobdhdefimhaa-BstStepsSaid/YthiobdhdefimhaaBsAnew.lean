/- PACKAGE bst: anew; a call's way is another one -/
import Derived.Test.YthiobdhdefimhaaBsWay
namespace Go.Proofs.Ythiobdhdefimhaa
open Go.RowKit
set_option linter.unusedVariables false
set_option linter.unusedSimpArgs false

theorem CA.way_in {a : CA} {kd : Kd} (e : kd = .ins ∨ kd = .rem) : ∀ k ∈ WayAt.foot a, k ∈ a.foot kd := by
  intro k hk; rcases e with rfl | rfl <;> simp [CA.foot, hk]
theorem CallM.passed {X : List Nat} {w w' : World} {A : TA} {a : CA} {c : Cl} {N : Value} {path : List Ps} {lv : Value} (h : CallM X w A a c N) (hk : c.kd = .ins ∨ c.kd = .rem) (hlv : lv = leafV a c.kd .way) (hp : Passed w A a c.key lv path w') :
    ∃ pv, CallM X w' A { a with pv := pv } { c with path := path } N ∧ Fr (WayAt.foot a) w w' ∧ ∀ k, pv.ownBlock = some k → a.pv.ownBlock = some k ∨ w.heap.size ≤ k := by
  subst hlv
  obtain ⟨pv, h1, h2, h3⟩ := hp
  have hw := h.way hk
  have hm : Mut X w (WayAt.foot a) := h.mut.sub (CA.way_in hk)
  have hi := h2.iv hm
  have ne : ∀ k cur T f, w.heap[k]? = some (.cells cur T f) → T ≠ 107 → T ≠ 110 → k ∉ WayAt.foot a := by
    intro k cur T f hkk hT hT2 hmm
    simp [WayAt.foot] at hmm
    rcases hmm with rfl | hmm
    · have := hw.blk
      rw [hkk] at this; simp only [Option.some.injEq, Obj.cells.injEq] at this
      exact hT this.2.1
    · rcases hw.row.2 with ⟨hv, _⟩ | ⟨g, cap, cur', hv, _, hh, _⟩
      · rw [hv] at hmm; cases hmm
      · rw [hv] at hmm; cases hmm
        rw [hkk] at hh; simp only [Option.some.injEq, Obj.cells.injEq] at hh
        exact hT2 hh.2.1
  refine ⟨pv, ⟨?_, h2.keep h.cbk (ne _ _ _ _ h.cbk (by decide) (by decide)), fun e => h1, fun e => h2.keep (h.full e) (ne _ _ _ _ (h.full e) (by decide) (by decide)), fun e => ?_⟩, h2, h3⟩
  · have := h.ctx.keep hi
    exact ⟨this.vc, this.vt, this.vk, this.vx, this.vw, this.v2, this.v7, this.vf⟩
  · rcases hk with e2 | e2 <;> (dsimp only at e; rw [e2] at e; cases e)
theorem Cf.passed {X : List Nat} {w w' : World} {A : TA} {a : CA} {t : Tr} {c : Cl} {N : Value} {path : List Ps} {lv : Value} (h : Cf X w A a t c N) (hk : c.kd = .ins ∨ c.kd = .rem) (hlv : lv = leafV a c.kd .way) (hp : Passed w A a c.key lv path w') :
    ∃ pv, Cf X w' A { a with pv := pv } t { c with path := path } N ∧ Fr (WayAt.foot a) w w' ∧ Fr (Both A a c.kd) w w' ∧ ∀ x ∈ Both A { a with pv := pv } c.kd, x ∈ Both A a c.kd ∨ w.heap.size ≤ x := by
  obtain ⟨pv, h1, h2, h3⟩ := h.call.passed hk hlv hp
  have hff : Fr (a.foot c.kd) w w' := h2.mono (fun k hk' => Or.inl (CA.way_in hk k hk'))
  refine ⟨pv, ⟨h.tree.keep (X := X) hff (hff.iv h.call.mut) (fun k hk hm => h.call.sep h.tree k hm hk), h1, fun x hx => Nat.lt_of_lt_of_le (h.xs x hx) h2.size⟩, h2, hff.mono (fun k hk => Or.inl (List.mem_append_right _ hk)), fun x hx => ?_⟩
  rcases List.mem_append.1 hx with hx | hx
  · exact Or.inl (List.mem_append_left _ hx)
  · exact (foot_pv h3 x hx).imp (List.mem_append_right _) id
theorem ownsRow_cut {w : World} {base e size n m g cap : Nat} {xs : List Value} (h : w.ownsRow base e size (.slice (some ⟨g, 0, none⟩) n cap) n xs) (hm : m ≤ n) : w.ownsRow base e size (.slice (some ⟨g, 0, none⟩) m cap) m (xs.take (m * size)) := by
  obtain ⟨h1, h2⟩ := h
  refine ⟨by rw [List.length_take, h1]; exact Nat.min_eq_left (Nat.mul_le_mul_right _ hm), ?_⟩
  rcases h2 with ⟨h, _⟩ | ⟨g', c', cur, hv, hg, hh, h5, h6, h7, h8⟩
  · cases h
  · cases hv
    refine Or.inr ⟨g, cap, cur, rfl, hg, hh, by omega, h6, h7, ?_⟩
    rw [← h8, List.take_take, Nat.min_eq_left (Nat.mul_le_mul_right _ hm)]
theorem flat_take (A : TA) : ∀ (l : List Ps) (m : Nat), (l.take m).flatMap (psV A) = (l.flatMap (psV A)).take (m * 3)
  | [], m => by simp
  | p :: l, 0 => by simp
  | p :: l, m + 1 => by
    rw [List.take_succ_cons, List.flatMap_cons, List.flatMap_cons, flat_take A l m, List.take_append]
    have h1 : (psV A p).take ((m + 1) * 3) = psV A p := List.take_of_length_le (by simp [psV]; omega)
    have h2 : (m + 1) * 3 - (psV A p).length = m * 3 := by simp [psV]; omega
    rw [h1, h2]
theorem WayAt.cutd {w : World} {A : TA} {a : CA} {key : ByteArray} {lv : Value} {path : List Ps} {g cap : Nat} (h : WayAt w A a key lv path) (hs : a.pv = .slice (some ⟨g, 0, none⟩) path.length cap) (m : Nat) (hm : m ≤ path.length) :
    Passed w A a key lv (path.take m) (w.setCell ⟨a.wb, 2, none⟩ (.slice (some ⟨g, 0, none⟩) m cap)) := by
  refine h.setPv (Fr.refl _ w) ?_ (by intro k hk; rw [hs]; exact Or.inl hk)
  have hr := h.row
  rw [hs] at hr
  have := ownsRow_cut hr hm
  rw [List.length_take, Nat.min_eq_left hm, flat_take]
  exact this
set_option maxHeartbeats 2000000 in
theorem bt_anew {X : List Nat} {w : World} {A : TA} {a : CA} {t : Tr} {c : Cl} {N : Value} {kd : Kd} (h : Cf X w A a t c N) (hk : c.kd = kd) (hkd : kd = .ins ∨ kd = .rem) (n : Nat) (hn : n ≤ c.path.length) (hp : c.path ≠ []) (hl : c.path.length ≤ 1000000000) :
    Calls Try.prog 63 #[pt a.wb, .int .i64 n] w (Post X w A a kd N t (c.cut n, some .look)) := by
  subst hk
  have hw := h.call.way hkd
  obtain ⟨g, cap, hs, _⟩ := hw.slice hp
  obtain ⟨w1, hw1⟩ : ∃ w1, w1 = (w.setCell ⟨a.wb, 2, none⟩ (.slice (some ⟨g, 0, none⟩) (c.path.length - n) cap)).drew := ⟨_, rfl⟩
  obtain ⟨pv, hc, hf, hf2, hf3⟩ := h.passed hkd rfl (hw.cutd hs (c.path.length - n) (by omega))
  have hf2' : Fr (Both A a c.kd) w w1 := by rw [hw1]; exact hf2.drew
  have hc' := hc.keep0 (Fr.refl [] _).drew
  rw [← hw1] at hc'
  have hlk := bt_look hc' (kd := c.kd) rfl
  have HLK : Hid (Calls Try.prog 84 #[pt a.wb] w1 (Post X w A a c.kd N t (c.cut n, some .look))) := Lib.hid (hlk.mono fun e w' hp => hp.trans (Ext.refl A) ⟨pv, rfl⟩ hf2' hf3)
  obtain ⟨_, _, c2, _, f2⟩ := way_cells hw
  rw [hs] at c2
  have HW1 := Lib.hid hw1
  have e1 : IntKind.i64.wrap ((c.path.length : Int) - n) = ((c.path.length - n : Nat) : Int) := by rw [IntWalk.i64_in _ (by omega)]; omega
  have hcap : c.path.length ≤ cap := by
    rcases hw.row.2 with ⟨hv, _⟩ | ⟨g', c', cur, hv, _, _, h5, _⟩
    · rw [hs] at hv; cases hv
    · rw [hs] at hv; cases hv; omega
  have kk : c.path.length ≤ cap + n := by omega
  have k0 : (0 : Int) ≤ ((c.path.length - n : Nat) : Int) := by omega
  have k1 : ((c.path.length - n : Nat) : Int) ≤ cap := by omega
  clear h hw hs hc hc' hf hf2 hf2' hf3 hlk hw1 hkd hp
  go_enter Try.func63, Try.ntmps63
  go_upto_region 1 with fail
  go_region
  go_upto_region 2 with fail
  rw [← HW1.out]
  go_wp2_with (go_at_call 84; refine HLK.out.mono ?_; rintro e w2 hp2; obtain ⟨V, rfl, HRR⟩ := hp2.ret; clear hp2)
  go_ret
  exact HRR.out
end Go.Proofs.Ythiobdhdefimhaa
