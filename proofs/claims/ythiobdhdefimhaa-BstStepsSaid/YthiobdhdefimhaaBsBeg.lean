/- PACKAGE bst: begin -/
import Derived.Test.YthiobdhdefimhaaBsEnd
namespace Go.Proofs.Ythiobdhdefimhaa
open Go.RowKit
set_option linter.unusedVariables false
set_option linter.unusedSimpArgs false

def Cl.start (c : Cl) : Cl := { c with path := [⟨2, false, 0⟩] }
set_option maxHeartbeats 4000000 in
theorem bt_begin {X : List Nat} {w : World} {A : TA} {a : CA} {t : Tr} {c : Cl} {N : Value} {kd : Kd} (h : Cf X w A a t c N) (hk : c.kd = kd) (hkd : kd = .ins ∨ kd = .rem) (hno : NdOk t 2) :
    Calls Try.prog 53 #[pt a.wb] w (Post X w A a kd N t (c.start, some (.desc (t.toward 2 c.key) .way))) := by
  subst hk
  have hway := h.call.way hkd
  have hne := hway.ne
  obtain ⟨d0, d1, d2, d3, df⟩ := way_cells hway
  obtain ⟨w1, hw1⟩ : ∃ w1, w1 = w.setCell ⟨a.wb, 2, none⟩ (.slice none 0 0) := ⟨_, rfl⟩
  have hpa : Passed w A a c.key (leafV a c.kd .way) [] w1 := by
    rw [hw1]
    refine ⟨.slice none 0 0, ⟨by simpa using set_block hway.blk 2 (.slice none 0 0), ⟨rfl, Or.inl ⟨rfl, rfl⟩⟩⟩, (Fr.refl _ w).setCell (Or.inl (by simp [WayAt.foot])) _, fun k hk => by cases hk⟩
  obtain ⟨pv, hc1, _, hf1, hx1⟩ := h.passed hkd rfl hpa
  obtain ⟨a1, ha1⟩ : ∃ a1 : CA, a1 = { a with pv := pv } := ⟨_, rfl⟩
  rw [← ha1] at hc1 hx1
  have HA1 : Hid (∃ pv, a1 = { a with pv := pv }) := Lib.hid ⟨pv, ha1⟩
  have hwb : a1.wb = a.wb := by rw [ha1]
  have hlv : ∀ kd m, leafV a1 kd m = leafV a kd m := fun kd m => by rw [ha1]; rfl
  have hnp : A.np 2 = pt (A.nb.getD 2 0) := rfl
  have HPS : Hid (∀ W, Fr [] w1 W → Calls Try.prog 77 #[pt a.wb, pt (A.nb.getD 2 0)] W fun e w' => ∃ a', (∃ pv, a' = { a1 with pv := pv }) ∧ e = .returned (t.toward 2 c.key).agg ∧ Cf X w' A a' t c.start N ∧ Fr (a1.foot c.kd) w1 w' ∧ ∀ x ∈ Both A a' c.kd, x ∈ Both A a1 c.kd ∨ w1.heap.size ≤ x) := Lib.hid fun W hW => by
    have := tow_way (hc1.keep0 hW) (kd := c.kd) rfl hkd 2 hno (by simp)
    rw [hwb] at this
    exact this.mono fun e w' ⟨a', k1, k2, k3, k4, k5, k6⟩ => ⟨a', k1, k2, k3, (hW.mono (by simp)).trans k5 (fun x hx => Or.inl hx), fun x hx => (k6 x hx).imp id (fun h => Nat.le_trans hW.size h)⟩
  have HDE : Hid (∀ W a' W', (∃ pv, a' = { a1 with pv := pv }) → Cf X W A a' t c.start N → Fr [] W W' → Calls Try.prog 48 #[pt A.tb, (t.toward 2 c.key).agg, .func (.func 77) #[pt a.wb] #[], leafV a c.kd .way] W' fun e w' => Post X W A a' c.kd N t (c.start, some (.desc (t.toward 2 c.key) .way)) e w' ∧ Fr [] W w') := Lib.hid (by
    rintro W a' W' ⟨pv', rfl⟩ hW hf
    have := bt_desc0 (a := { a1 with pv := pv' }) (hW.keep0 hf) (kd := c.kd) rfl (t.toward 2 c.key) .way
    have e1 : towV { a1 with pv := pv' } .way = .func (.func 77) #[pt a.wb] #[] := by rw [← hwb]; rfl
    have e2 : leafV { a1 with pv := pv' } c.kd .way = leafV a c.kd .way := by rw [← hlv]; rfl
    rw [e1, e2] at this
    exact this.mono fun e w' hp => ⟨hp.1.after0 hf, (hf.trans (T := []) hp.2 (by simp))⟩)
  have HWC : Hid (∀ W a', (∃ pv, a' = { a1 with pv := pv }) → Cf X W A a' t c.start N → W.cell? ⟨a.wb, 0, none⟩ = some (pt A.tb) ∧ W.cell? ⟨a.wb, 3, none⟩ = some (leafV a c.kd .way) ∧ W.cell? ⟨A.tb, 2, none⟩ = some (pt (A.nb.getD 2 0))) := Lib.hid (by
    rintro W a' ⟨pv', rfl⟩ hW
    obtain ⟨x0, _, _, x3, _⟩ := way_cells (hW.call.way hkd)
    obtain ⟨_, _, y2, _⟩ := tree_cells hW.tree.toTreeB
    rw [hW.tree.top, hnp] at y2
    have e2 : leafV { a1 with pv := pv' } c.start.kd .way = leafV a c.kd .way := by rw [← hlv]; rfl
    rw [e2] at x3
    exact ⟨by rw [← hwb]; exact x0, by rw [← hwb]; exact x3, y2⟩)
  have hwc1 := hc1.call.way hkd
  obtain ⟨x0, _, _, x3, _⟩ := way_cells hwc1
  obtain ⟨_, _, y2, _⟩ := tree_cells hc1.tree.toTreeB
  rw [hc1.tree.top, hnp] at y2
  rw [hwb] at x0 x3
  rw [hlv] at x3
  have HLF : Hid (∀ W, Fr (Both A a c.kd) w W → Iv X w W) := Lib.hid fun W hW => h.iv hW
  obtain ⟨BR, hBR⟩ : ∃ x, x = t.toward 2 c.key := ⟨_, rfl⟩
  rw [← hBR] at HPS HDE ⊢
  obtain ⟨f, x, y, hlf⟩ := leafV.form a c.kd .way
  dsimp only at x3
  rw [hlf] at HDE HWC x3 d3
  have HF1 := Lib.hid hf1
  have HX1 := Lib.hid hx1
  have HW1 := Lib.hid hw1
  obtain ⟨bc, bf⟩ := BR
  unfold Br.agg at HPS HDE
  dsimp only at HPS HDE
  clear h hway hne hpa hc1 hf1 hx1 ha1 hwb hlv hnp hwc1 hBR hlf hno hkd hw1 d0 d1 d3
  go_enter Try.func53, Try.ntmps53
  go_upto_region 2 with fail
  rw [← HW1.out]
  go_region_held3 (fun W => W.cell? ⟨a.wb, 0, none⟩ = some (pt A.tb) ∧ W.cell? ⟨a.wb, 3, none⟩ = some (.func f x y) ∧ W.cell? ⟨A.tb, 2, none⟩ = some (pt (A.nb.getD 2 0))) (go_keep)
    (first
      | (go_at_call 77; refine (HPS.out _ (Fr.refl [] w1).drew).mono ?_; rintro e w2 ⟨a', ha', rfl, hc2, hf2, hx2⟩
         have HC2 := Lib.hid hc2
         have HA2 := Lib.hid ha'
         have HF2 := Lib.hid hf2
         have HX2 := Lib.hid hx2
         obtain ⟨x0, x3, y2⟩ := HWC.out _ _ ha' hc2
         clear hc2 ha' hf2 hx2)
      | (go_at_call 48; refine (HDE.out _ _ _ HA2.out HC2.out (by first | exact Fr.refl [] _ | exact (Fr.refl [] _).drew)).mono ?_; rintro e w4 ⟨hp2, hf4⟩
         obtain ⟨x0, x3, y2⟩ := HWC.out _ _ HA2.out (HC2.out.keep0 hf4)
         have hpp := (hp2.trans (Ext.refl A) HA2.out (HF2.out.mono (fun k hk => Or.inl (List.mem_append_right _ hk))) HX2.out).trans (Ext.refl A) HA1.out HF1.out HX1.out
         obtain ⟨V, rfl, HRR⟩ := hpp.ret
         clear hp2 hf4 hpp))
  all_goals go_wp2
  all_goals go_ret
  all_goals exact HRR.out

theorem Cf.setFull {X : List Nat} {w w' : World} {A : TA} {a : CA} {t : Tr} {c : Cl} {N : Value} (h : Cf X w A a t c N) (hk : c.kd = .ins) (F : Bool) (hf : Fr [a.b5] w w') (hb : w'.heap[a.b5]? = some (.cells #[.bool F] 4 (0, 0))) : Cf X w' A a t { c with full := F } N := by
  have h5 := h.call.full hk
  have hi : Iv X w w' := hf.iv (mut_one h5 (imm_ty (by decide) (by decide)))
  have ne : ∀ k cur T f, w.heap[k]? = some (.cells cur T f) → T ≠ 4 → k ∉ [a.b5] := by
    intro k cur T f hkk hT hm
    simp only [List.mem_singleton] at hm
    subst hm
    rw [hkk] at h5; simp only [Option.some.injEq, Obj.cells.injEq] at h5
    exact hT h5.2.1
  refine ⟨h.tree.keep hf hi (fun k hk' hm => ?_), ⟨h.call.ctx.keep hi, hf.keep h.call.cbk (ne _ _ _ _ h.call.cbk (by decide)), fun e => ?_, fun _ => hb, fun e => ?_⟩, fun x hx => Nat.lt_of_lt_of_le (h.xs x hx) hf.size⟩
  · simp only [List.mem_singleton] at hm
    subst hm
    exact h.call.sep h.tree _ (by rw [hk]; simp [CA.foot]) hk'
  · obtain ⟨h1, h2⟩ := h.call.way e
    refine ⟨hf.keep h1 (ne _ _ _ _ h1 (by decide)), ownsRow_fr hf h2 (fun k hk => ?_)⟩
    rcases h2.2 with ⟨hv, _⟩ | ⟨g, cap, cur, hv, _, hh, _⟩
    · rw [hv] at hk; cases hk
    · rw [hv] at hk; cases hk
      exact ne _ _ _ _ hh (by decide)
  · dsimp only at e; rw [hk] at e; cases e
theorem CA.b5_in (a : CA) : a.b5 ∈ a.foot .ins := by simp [CA.foot]
set_option maxHeartbeats 4000000 in
theorem step_beg {X : List Nat} {w : World} {A : TA} {a : CA} {t : Tr} {c : Cl} {N : Value} (h : Cf X w A a t c N) (hk : c.kd = .ins) (hno : NdOk t 2) (hl : t.ms.c.length ≤ 65536) (hn : t.ms.n ≤ 1000000000000) (hd : DescOk t ({ c with full := !t.room, path := [⟨2, false, 0⟩] } : Cl) (t.kid (t.toward 2 c.key)) .way) :
    Calls Try.prog 51 #[pt a.b0, pt a.b5, pt a.b4] w (Post X w A a .ins N (t.ask (t.toward 2 c.key).cell) (({ c with full := !t.room, path := [⟨2, false, 0⟩] } : Cl).desc t (t.kid (t.toward 2 c.key)) .way)) := by
  have HRM : Hid (Calls Try.prog 52 #[pt A.tb] w fun e w' => e = .returned (.bool t.room) ∧ w = w') := Lib.hid (nd_room A t w h.tree hl)
  obtain ⟨R, hR⟩ : ∃ R, R = t.room := ⟨_, rfl⟩
  rw [← hR] at HRM hd ⊢
  have h5 := h.call.full hk
  obtain ⟨w1, hw1⟩ : ∃ w1, w1 = w.setCell ⟨a.b5, 0, none⟩ (.bool (!R)) := ⟨_, rfl⟩
  have hf1 : Fr [a.b5] w w1 := by rw [hw1]; exact (Fr.refl _ w).setCell (Or.inl (by simp)) _
  have hc1 := h.setFull hk (!R) hf1 (by rw [hw1]; simpa using set_block h5 0 (.bool (!R)))
  obtain ⟨c1, hc1e⟩ : ∃ c1 : Cl, c1 = { c with full := !R } := ⟨_, rfl⟩
  rw [← hc1e] at hc1
  have hk1 : c1.kd = .ins := by rw [hc1e]; exact hk
  have hke : c1.key = c.key := by rw [hc1e]
  have hst : ({ c with full := !R, path := [⟨2, false, 0⟩] } : Cl) = c1.start := by rw [hc1e]; rfl
  rw [hst] at hd ⊢
  rw [← hke] at hd ⊢
  have hkd1 : c1.start.kd = .ins := hk1
  have HBG : Hid (Calls Try.prog 53 #[pt a.wb] w1 fun e w' => ∃ A' a' p0 p1 p2 p3, e = .returned (.func (.func 74) #[] #[pt p0, pt p1, pt p2, pt p3]) ∧ (∀ W, Fr [] w' W → Calls Try.prog 74 #[pt p0, pt p1, pt p2, pt p3] W (Post X w A a .ins N (t.ask (t.toward 2 c1.key).cell) (c1.start.desc t (t.kid (t.toward 2 c1.key)) .way)))) := Lib.hid ((bt_begin hc1 hk1 (Or.inl rfl) hno).mono (by
    rintro e w' ⟨A', a', V, rfl, hcf, ⟨p0, p1, p2, p3, rfl, v0, v1, v2, v3⟩, hkk, hext, ⟨pv, rfl⟩, hfr, hnx⟩
    refine ⟨A', { a with pv := pv }, p0, p1, p2, p3, rfl, fun W hW => ?_⟩
    have := desc_way_ins (hcf.keep0 hW) hkd1 (t.toward 2 c1.key) p0 p1 p2 p3 (v0.keep hW.iv0) (hW.keep v1 (by simp)) (v2.keep hW.iv0) (v3.keep hW.iv0) hl hn hd
    have hf1' : Fr (Both A a .ins) w w1 := hf1.mono (by intro k hk; simp only [List.mem_singleton] at hk; subst hk; exact Or.inl (List.mem_append_right _ a.b5_in))
    exact this.mono fun e w' hp => hp.trans hext ⟨pv, rfl⟩ ((hf1'.trans hfr (fun x hx => Or.inl hx)).trans (T := []) hW (by simp)) (fun x hx => (hnx x hx).imp id (fun h => Nat.le_trans hf1.size h))))
  have v0 := (h.call.ctx.vx (by rw [hk]; decide)).cell
  have v4 := (hc1.call.ctx.vw (Or.inl hk1)).cell
  have c5 := cell_block h5 0
  have f5 := free_block h5 0
  simp at c5
  have HW1 := Lib.hid hw1
  clear h h5 hf1 hc1 hc1e hk1 hke hst hkd1 hd hR hno hl hn hw1
  go_enter Try.func51, Try.ntmps51
  go_wp2_with (first | (go_at_call 52; refine HRM.out.mono ?_; rintro e w2 ⟨rfl, rfl⟩; refine go_stop ?_))
  unfold Stop
  go_upto_region 2 with fail
  rw [← HW1.out]
  go_wp2_with (go_at_call 53; refine HBG.out.mono ?_; rintro e w3 ⟨A', a', p0, p1, p2, p3, rfl, hds⟩; have HDS := Lib.hid hds; clear hds; refine go_stop ?_)
  unfold Stop
  go_wp2_with (go_at_call 74; refine (HDS.out _ (Fr.refl _ _)).mono ?_; rintro e w4 hp2; obtain ⟨V, rfl, HRR⟩ := hp2.ret; clear hp2)
  go_ret
  exact HRR.out
end Go.Proofs.Ythiobdhdefimhaa
