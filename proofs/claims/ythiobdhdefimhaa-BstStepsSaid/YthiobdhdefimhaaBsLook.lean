/- PACKAGE bst: look, down -/
import Derived.Test.YthiobdhdefimhaaBsDesc
namespace Go.Proofs.Ythiobdhdefimhaa
open Go.RowKit
set_option linter.unusedVariables false
set_option linter.unusedSimpArgs false

theorem isU_at {m : MS} (h : ∀ x ∈ m.c, IsU x) (k : Int) : IsU (m.at k) := by
  unfold MS.at
  split
  · rw [List.getD_eq_getElem?_getD]
    cases hh : m.c[k.toNat]? with
    | none => exact ⟨Int.le_refl _, by decide⟩
    | some x => exact h x (List.mem_of_getElem? hh)
  · exact ⟨Int.le_refl _, by decide⟩
set_option maxHeartbeats 4000000 in
theorem step_look {X : List Nat} {w : World} {A : TA} {a : CA} {t : Tr} {c : Cl} {N : Value} {kd : Kd} (h : Cf X w A a t c N) (hk : c.kd = kd) (hkd : kd = .ins ∨ kd = .rem) (p : Nat) (h0 : Va X w p 104 (pt a.wb)) (hl : t.ms.c.length ≤ 65536) (hn : t.ms.n ≤ 1000000000000)
    (hw : t.ws.length ≤ 1000000000) (hp : c.path ≠ []) (hlen : c.path.length ≤ 1000000000) (hno : NdOk t (c.up 0).node) (hu : IsU (t.ms.at (t.word (c.up 0).node))) (hh : HlpOk t (t.ms.at (t.word (c.up 0).node))) :
    Calls Try.prog 95 #[pt p] w (Post X w A a kd N (t.ask (t.word (c.up 0).node)) (c.met t (t.ms.at (t.word (c.up 0).node)))) := by
  subst hk
  have hway := h.call.way hkd
  obtain ⟨g, cap, hs, hglt, hgw, hcell, hfree⟩ := hway.slice hp
  have hl0 : 0 < c.path.length := List.length_pos_iff.2 hp
  obtain ⟨no1, no2, no3, no4, no5⟩ := hno
  obtain ⟨b, hb1, hb2⟩ := h.tree.node no1
  have hpu := c.up_get 0 hl0
  simp only [Nat.sub_zero] at hpu
  obtain ⟨e0, _⟩ := hcell _ _ hpu
  rw [hb1] at e0
  obtain ⟨d0, d1, d2, d3, _⟩ := way_cells hway
  obtain ⟨q0, _⟩ := tree_cells h.tree.toTreeB
  have HUP : Hid (∀ W, Fr [] w W → Calls Try.prog 56 #[pt a.wb, .int .i64 0] W fun e w' => e = .returned (.pointer (some ⟨g, (c.path.length - 1) * 3, none⟩)) ∧ Fr [] W w') := Lib.hid fun W hW => by have := way_up W A a c.key _ c.path 0 g cap (hway.keep0 hW) hl0 hlen hs; simpa using this
  have HWD : Hid (∀ W, Fr [] w W → Calls Try.prog 79 #[pt b] W fun e w' => e = .returned (.int .i64 (t.word (c.up 0).node)) ∧ W = w') := Lib.hid fun W hW => nd_word _ _ b W (hW.keep hb2 (by simp)) no4 no5
  have HLD : Hid (∀ W, Fr [] w W → Calls Try.prog 90 #[pt A.mb, .int .i64 (t.word (c.up 0).node)] W fun e w' => e = .returned (.tuple #[.int .u64 (t.ms.at (t.word (c.up 0).node)), .int .i64 (t.ms.err (t.word (c.up 0).node))]) ∧ Cf X w' A a (t.ask (t.word (c.up 0).node)) c N ∧ Fr A.foot w w' ∧ Fr A.foot W w') := Lib.hid fun W hW => ((h.tree.keep0 hW).load hl hn _).mono fun e w' ⟨he, ht, hf⟩ =>
    ⟨he, (h.keep0 hW).treed0 hf ht, (hW.mono (by simp)).trans hf (fun x hx => Or.inl hx), hf⟩
  obtain ⟨WD, hWD⟩ : ∃ x, x = t.word (c.up 0).node := ⟨_, rfl⟩
  rw [← hWD] at HWD HLD hu hh ⊢
  obtain ⟨WAS, hWAS⟩ : ∃ x, x = t.ms.at WD := ⟨_, rfl⟩
  rw [← hWAS] at HLD hu hh ⊢
  obtain ⟨ERR, hERR⟩ : ∃ x, x = t.ms.err WD := ⟨_, rfl⟩
  rw [← hERR] at HLD
  have HMT : Hid (∀ W, Cf X W A a (t.ask WD) c N → Calls Try.prog 58 #[pt a.wb, .int .u64 WAS] W (Post X W A a c.kd N (t.ask WD) (c.met t WAS))) := Lib.hid fun W hW => bt_met hW rfl hkd WAS hu hh hw hp hlen
  have HIV := Lib.hid (show ∀ W, Fr A.foot w W → Iv X w W from fun W hW => h.tree.iv hW)
  have H0 := Lib.hid h0
  have HC := Lib.hid h
  have HG : Hid (g < w.heap.size ∧ ∀ W, Fr A.foot w W → W.cell? ⟨g, (c.path.length - 1) * 3, none⟩ = some (pt b)) := Lib.hid ⟨hglt, fun W hW => by
    refine hW.cell e0 ?_
    have hin : g ∈ a.foot c.kd := CA.way_in hkd _ (by rw [WayAt.foot, hs]; simp [Value.ownBlock])
    exact h.call.sep h.tree g hin⟩
  have HWC : Hid (∀ W, Fr A.foot w W → W.cell? ⟨a.wb, 0, none⟩ = some (pt A.tb)) := Lib.hid fun W hW => hW.cell d0 (h.call.sep h.tree _ (CA.way_in hkd _ (by simp [WayAt.foot])))
  have v0 := h0.cell
  obtain ⟨O, hO⟩ : ∃ O, O = (c.path.length - 1) * 3 := ⟨_, rfl⟩
  rw [← hO] at HUP HG e0
  have hb3 := (tree_cells h.tree.toTreeB).1
  clear h h0 hway hs hglt hgw hcell hfree hl0 no1 no2 no3 no4 no5 hb1 hb2 hpu hu hh hWD hWAS hERR hl hn hw hp hlen hkd d1 d2 d3 hO hb3
  go_enter Try.func95, Try.ntmps95
  go_wp2_with fail
  go_region_held3 (fun W => W.cell? ⟨p, 0, none⟩ = some (pt a.wb) ∧ W.cell? ⟨a.wb, 0, none⟩ = some (pt A.tb) ∧ W.cell? ⟨A.tb, 0, none⟩ = some (pt A.mb) ∧ W.cell? ⟨g, O, none⟩ = some (pt b)) (go_keep)
    (first
      | (go_at_call 56; refine (HUP.out _ (Fr.refl [] w).drew).mono ?_; rintro e w1 ⟨rfl, hf1⟩
         have hf := (Fr.refl [] w).drew.trans hf1 (by simp)
         have HF1 := Lib.hid hf
         have v0 := (H0.out.keep (hf.iv0 (X := X))).cell
         have d0 := hf.cell d0 (by simp)
         have q0 := hf.cell q0 (by simp)
         have e0 := hf.cell e0 (by simp)
         clear hf hf1)
      | (go_at_call 79; refine (HWD.out _ HF1.out).mono ?_; rintro e w2 ⟨rfl, rfl⟩)
      | (go_at_call 90; refine (HLD.out _ HF1.out).mono ?_; rintro e w4 ⟨rfl, hc4, hf4, hf5⟩
         have HC4 := Lib.hid hc4
         have HF4 := Lib.hid hf4
         have v0 := (H0.out.keep (HIV.out _ hf4)).cell
         have d0 := HWC.out _ hf4
         have e0 := HG.out.2 _ hf4
         obtain ⟨q0, _⟩ := tree_cells hc4.tree.toTreeB
         clear hc4 hf4 hf5))
  all_goals go_wp2_with (go_at_call 58; refine (HMT.out _ HC4.out).mono ?_; rintro e w9 hp9; obtain ⟨V, rfl, HRR⟩ := (hp9.treed HF4.out).ret; clear hp9)
  all_goals go_ret
  all_goals exact HRR.out
end Go.Proofs.Ythiobdhdefimhaa
