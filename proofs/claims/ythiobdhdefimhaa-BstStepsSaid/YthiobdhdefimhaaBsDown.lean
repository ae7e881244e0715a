/- PACKAGE bst: down (written by bst_down.py) -/
import Derived.Test.YthiobdhdefimhaaBsLook
namespace Go.Proofs.Ythiobdhdefimhaa
open Go.RowKit
set_option linter.unusedVariables false
set_option linter.unusedSimpArgs false

set_option maxHeartbeats 4000000 in
theorem step_down_ins {X : List Nat} {w : World} {A : TA} {a : CA} {t : Tr} {c : Cl} {N : Value} (h : Cf X w A a t c N) (hk : c.kd = .ins) (p : Nat) (h0 : Va X w p 104 (pt a.wb)) (hl : t.ms.c.length ≤ 65536) (hn : t.ms.n ≤ 1000000000000)
    (hp : c.path ≠ []) (hlen : c.path.length ≤ 1000000000) (hno : NdOk t (c.up 0).node) (hd : DescOk t c (t.kid (t.toward (c.up 0).node c.key)) .way) :
    Calls Try.prog 93 #[pt p] w (Post X w A a .ins N (t.ask (t.toward (c.up 0).node c.key).cell) (if (t.nd (t.kid (t.toward (c.up 0).node c.key))).inner then (c.pass (t.kid (t.toward (c.up 0).node c.key)), some .look) else c.leaf t (t.kid (t.toward (c.up 0).node c.key)) .way)) := by
  have hkd : c.kd = .ins ∨ c.kd = .rem := Or.inl hk
  have hway := h.call.way hkd
  obtain ⟨g, cap, hs, hglt, hgw, hcell, hfree⟩ := hway.slice hp
  have hl0 : 0 < c.path.length := List.length_pos_iff.2 hp
  obtain ⟨no1, no2, no3, no4, no5⟩ := hno
  obtain ⟨b, hb1, hb2⟩ := h.tree.node no1
  have hpu := c.up_get 0 hl0
  simp only [Nat.sub_zero] at hpu
  obtain ⟨e0, _⟩ := hcell _ _ hpu
  rw [hb1] at e0
  obtain ⟨d0, d1, d2, d3, _⟩ := way_cells hway
  obtain ⟨hd1, _, hd2, hd3⟩ := hd
  have HUP : Hid (∀ W, Fr [] w W → Calls Try.prog 56 #[pt a.wb, .int .i64 0] W fun e w' => e = .returned (.pointer (some ⟨g, (c.path.length - 1) * 3, none⟩)) ∧ Fr [] W w') := Lib.hid fun W hW => by have := way_up W A a c.key _ c.path 0 g cap (hway.keep0 hW) hl0 hlen hs; simpa using this
  obtain ⟨BR, hBR⟩ : ∃ x, x = t.toward (c.up 0).node c.key := ⟨_, rfl⟩
  have HTO : Hid (∀ W, Fr [] w W → Calls Try.prog 46 #[pt b, .string c.key] W fun e w' => e = .returned BR.agg ∧ Fr [] W w') := Lib.hid fun W hW => by rw [hBR]; exact nd_toward _ _ b _ W (hW.keep hb2 (by simp)) no4 no5 no2 no3
  rw [← hBR] at hd1 hd2 hd3 ⊢
  have HCH : Hid (∀ W, Fr [] w W → Calls Try.prog 75 #[pt A.tb, BR.agg] W fun e w' => e = .returned (A.np (t.kid BR)) ∧ Cf X w' A a (t.ask BR.cell) c N ∧ Fr A.foot w w') := Lib.hid fun W hW => (nd_child A t BR W (h.tree.keep0 hW) hl hn hd1).mono fun e w' ⟨he, ht, hf⟩ =>
    ⟨he, (h.keep0 hW).treed0 hf ht, (hW.mono (by simp)).trans hf (fun x hx => Or.inl hx)⟩
  obtain ⟨K, hK⟩ : ∃ K, K = t.kid BR := ⟨_, rfl⟩
  obtain ⟨t1, ht1⟩ : ∃ t1, t1 = t.ask BR.cell := ⟨_, rfl⟩
  have hgl : ∀ l m, c.leaf t l m = c.leaf t1 l m := fun l m => by rw [ht1]; rfl
  have hgi : (t.nd K).inner = (t1.nd K).inner := by rw [ht1]; rfl
  rw [← hK] at hd1 hd2 hd3 HCH ⊢
  rw [← ht1] at HCH ⊢
  rw [hgl, hgi]
  have HD2 : Hid ((t1.nd K).inner = true → NdOk t1 K) := Lib.hid (by rw [ht1]; exact hd2)
  have HD3 : Hid ((t1.nd K).inner = false → LeafOk t1 c K .way) := Lib.hid (by rw [ht1]; exact hd3)
  have HD1 : Hid (K < t1.ns.length) := Lib.hid (by rw [ht1]; exact hd1)
  have HIV := Lib.hid (show ∀ W, Fr A.foot w W → Iv X w W from fun W hW => h.tree.iv hW)
  have H0 := Lib.hid h0
  have hin : g ∈ a.foot c.kd := CA.way_in hkd _ (by rw [WayAt.foot, hs]; simp [Value.ownBlock])
  have HG : Hid (∀ W, Fr A.foot w W → W.cell? ⟨g, (c.path.length - 1) * 3, none⟩ = some (pt b)) := Lib.hid fun W hW => hW.cell e0 (h.call.sep h.tree g hin)
  have HWC : Hid (∀ W, Fr A.foot w W → W.cell? ⟨a.wb, 0, none⟩ = some (pt A.tb) ∧ W.cell? ⟨a.wb, 1, none⟩ = some (.string c.key)) := Lib.hid fun W hW => ⟨hW.cell d0 (h.call.sep h.tree _ (CA.way_in hkd _ (by simp [WayAt.foot]))), hW.cell d1 (h.call.sep h.tree _ (CA.way_in hkd _ (by simp [WayAt.foot])))⟩
  have v0 := h0.cell
  obtain ⟨O, hO⟩ : ∃ O, O = (c.path.length - 1) * 3 := ⟨_, rfl⟩
  rw [← hO] at HUP HG e0
  have HDL := Lib.hid hlen
  have HC := Lib.hid h
  obtain ⟨bc, bf⟩ := BR
  unfold Br.agg at HTO HCH
  dsimp only at *
  obtain ⟨B, hB⟩ : ∃ B, B = (t1.nd K).inner := ⟨_, rfl⟩
  have HB := Lib.hid hB
  rw [← hB] at HD2 HD3 ⊢
  have HNEW : Hid (∀ W W' : World, Fr [] W W' → W.heap.size ≤ W'.heap.size) := Lib.hid fun W W' h => h.size
  clear h h0 hway hs hglt hgw hcell hfree hl0 no1 no2 no3 no4 no5 hb1 hb2 hpu hl hn hp hlen hkd d2 d3 hO hin hgl hgi hK ht1 hd1 hd2 hd3 hBR hB
  cases B
  · rw [if_neg Bool.false_ne_true]
    have hlo := HD3.out rfl
    have HLF : Hid (∀ W, Cf X W A a t1 c N → Calls Try.prog 62 #[A.np K, pt a.b1, pt a.b3, pt a.b5, pt a.b4, pt a.b7] W (Post X W A a .ins N t1 (c.leaf t1 K .way))) := Lib.hid fun W hW => leaf_ins hW hk K hlo.1 (hlo.2.2.1 hk) hlo.2.1 .way
    clear hlo
    go_enter Try.func93, Try.ntmps93
    go_wp2_with fail
    go_region_held3 (fun W => W.cell? ⟨p, 0, none⟩ = some (pt a.wb) ∧ W.cell? ⟨a.wb, 0, none⟩ = some (pt A.tb) ∧ W.cell? ⟨a.wb, 1, none⟩ = some (.string c.key) ∧ W.cell? ⟨g, O, none⟩ = some (pt b)) (go_keep)
      (first
        | (go_at_call 56; refine (HUP.out _ (Fr.refl [] w).drew).mono ?_; rintro e w1 ⟨rfl, hf1⟩
           have hf := (Fr.refl [] w).drew.trans hf1 (by simp)
           have HF1 := Lib.hid hf
           have v0 := (H0.out.keep (hf.iv0 (X := X))).cell
           have d0 := hf.cell d0 (by simp)
           have d1 := hf.cell d1 (by simp)
           have e0 := hf.cell e0 (by simp)
           clear hf hf1)
        | (go_at_call 46; refine (HTO.out _ HF1.out).mono ?_; rintro e w2 ⟨rfl, hf2⟩
           have hf := HF1.out.trans hf2 (by simp)
           have HF2 := Lib.hid hf
           have v0 := (H0.out.keep (hf.iv0 (X := X))).cell
           have d0 := (HWC.out _ (hf.mono (by simp))).1
           have d1 := (HWC.out _ (hf.mono (by simp))).2
           have e0 := HG.out _ (hf.mono (by simp))
           clear hf hf2)
        | (go_at_call 75; refine (HCH.out _ HF2.out).mono ?_; rintro e w4 ⟨rfl, hc4, hf4⟩
           have HC4 := Lib.hid hc4
           have HF4 := Lib.hid hf4
           have v0 := (H0.out.keep (HIV.out _ hf4)).cell
           have d0 := (HWC.out _ hf4).1
           have d1 := (HWC.out _ hf4).2
           have e0 := HG.out _ hf4
           clear hc4 hf4))
    obtain ⟨nb, hnb, hnd⟩ := HC4.out.tree.node HD1.out
    have hlf := HLF.out _ HC4.out
    rw [hnb] at hlf ⊢
    obtain ⟨_, y1, _⟩ := nod_cells hnd
    rw [← HB.out] at y1
    obtain ⟨_, _, _, x3, _⟩ := way_cells (HC4.out.call.way (Or.inl hk))
    rw [hk] at x3
    unfold leafV fn at x3
    simp only [List.map_cons, List.map_nil] at x3
    have HLL := Lib.hid hlf
    clear hnb hnd hlf
    go_wp2_with (go_at_call 62; refine HLL.out.mono ?_; rintro e w9 hp9; obtain ⟨V, rfl, HRR⟩ := (hp9.treed HF4.out).ret; clear hp9)
    go_ret
    exact HRR.out
  · rw [if_pos rfl]
    have hok := HD2.out rfl
    have HPS : Hid (∀ W, Cf X W A a t1 c N → Calls Try.prog 77 #[pt a.wb, A.np K] W (TowPost X W A a .ins N t1 c K .way)) := Lib.hid fun W hW => tow_way hW hk (Or.inl rfl) K hok HDL.out
    have HLK : Hid (∀ W a', Cf X W A a' t1 (c.pass K) N → (∃ pv, a' = { a with pv := pv }) → Calls Try.prog 84 #[pt a.wb] W (Post X W A a' .ins N t1 (c.pass K, some .look))) := Lib.hid (by
      rintro W a' hW ⟨pv, rfl⟩
      exact bt_look hW hk)
    clear hok
    go_enter Try.func93, Try.ntmps93
    go_wp2_with fail
    go_region_held3 (fun W => W.cell? ⟨p, 0, none⟩ = some (pt a.wb) ∧ W.cell? ⟨a.wb, 0, none⟩ = some (pt A.tb) ∧ W.cell? ⟨a.wb, 1, none⟩ = some (.string c.key) ∧ W.cell? ⟨g, O, none⟩ = some (pt b)) (go_keep)
      (first
        | (go_at_call 56; refine (HUP.out _ (Fr.refl [] w).drew).mono ?_; rintro e w1 ⟨rfl, hf1⟩
           have hf := (Fr.refl [] w).drew.trans hf1 (by simp)
           have HF1 := Lib.hid hf
           have v0 := (H0.out.keep (hf.iv0 (X := X))).cell
           have d0 := hf.cell d0 (by simp)
           have d1 := hf.cell d1 (by simp)
           have e0 := hf.cell e0 (by simp)
           clear hf hf1)
        | (go_at_call 46; refine (HTO.out _ HF1.out).mono ?_; rintro e w2 ⟨rfl, hf2⟩
           have hf := HF1.out.trans hf2 (by simp)
           have HF2 := Lib.hid hf
           have v0 := (H0.out.keep (hf.iv0 (X := X))).cell
           have d0 := (HWC.out _ (hf.mono (by simp))).1
           have d1 := (HWC.out _ (hf.mono (by simp))).2
           have e0 := HG.out _ (hf.mono (by simp))
           clear hf hf2)
        | (go_at_call 75; refine (HCH.out _ HF2.out).mono ?_; rintro e w4 ⟨rfl, hc4, hf4⟩
           have HC4 := Lib.hid hc4
           have HF4 := Lib.hid hf4
           have v0 := (H0.out.keep (HIV.out _ hf4)).cell
           have d0 := (HWC.out _ hf4).1
           have d1 := (HWC.out _ hf4).2
           have e0 := HG.out _ hf4
           clear hc4 hf4))
    obtain ⟨nb, hnb, hnd⟩ := HC4.out.tree.node HD1.out
    have hps := HPS.out _ HC4.out
    rw [hnb] at hps ⊢
    obtain ⟨_, y1, _⟩ := nod_cells hnd
    rw [← HB.out] at y1
    have HPP := Lib.hid hps
    clear hnb hnd hps
    go_wp2_with (go_at_call 77; refine HPP.out.mono ?_; rintro e w5 ⟨a', ha', rfl, hc5, hk5, hf5, hx5⟩; refine go_stop ?_)
    unfold Stop
    have HC5 : Hid (Cf X w5 A a' t1 (c.pass K) N) := Lib.hid hc5
    have HA5 := Lib.hid ha'
    have HF5 := Lib.hid (hf5.mono (T := Both A a .ins) (fun k hk => Or.inl (List.mem_append_right _ hk)))
    have HX5 := Lib.hid hx5
    have v5 := (H0.out.keep ((HIV.out _ HF4.out).trans (by have := HC4.out.call.mut; rw [hk] at this; exact hf5.iv this))).cell
    clear hc5 ha' hf5 hx5 hk5 v0 d0 d1 e0
    go_wp2_with (go_at_call 84; refine (HLK.out _ _ HC5.out HA5.out).mono ?_; rintro e w9 hp9; obtain ⟨V, rfl, HRR⟩ := ((Post.both hp9 HA5.out HF5.out HX5.out).treed HF4.out).ret; clear hp9)
    go_ret
    exact HRR.out

set_option maxHeartbeats 4000000 in
theorem step_down_rem {X : List Nat} {w : World} {A : TA} {a : CA} {t : Tr} {c : Cl} {N : Value} (h : Cf X w A a t c N) (hk : c.kd = .rem) (p : Nat) (h0 : Va X w p 104 (pt a.wb)) (hl : t.ms.c.length ≤ 65536) (hn : t.ms.n ≤ 1000000000000)
    (hp : c.path ≠ []) (hlen : c.path.length ≤ 1000000000) (hno : NdOk t (c.up 0).node) (hd : DescOk t c (t.kid (t.toward (c.up 0).node c.key)) .way) :
    Calls Try.prog 93 #[pt p] w (Post X w A a .rem N (t.ask (t.toward (c.up 0).node c.key).cell) (if (t.nd (t.kid (t.toward (c.up 0).node c.key))).inner then (c.pass (t.kid (t.toward (c.up 0).node c.key)), some .look) else c.leaf t (t.kid (t.toward (c.up 0).node c.key)) .way)) := by
  have hkd : c.kd = .ins ∨ c.kd = .rem := Or.inr hk
  have hway := h.call.way hkd
  obtain ⟨g, cap, hs, hglt, hgw, hcell, hfree⟩ := hway.slice hp
  have hl0 : 0 < c.path.length := List.length_pos_iff.2 hp
  obtain ⟨no1, no2, no3, no4, no5⟩ := hno
  obtain ⟨b, hb1, hb2⟩ := h.tree.node no1
  have hpu := c.up_get 0 hl0
  simp only [Nat.sub_zero] at hpu
  obtain ⟨e0, _⟩ := hcell _ _ hpu
  rw [hb1] at e0
  obtain ⟨d0, d1, d2, d3, _⟩ := way_cells hway
  obtain ⟨hd1, _, hd2, hd3⟩ := hd
  have HUP : Hid (∀ W, Fr [] w W → Calls Try.prog 56 #[pt a.wb, .int .i64 0] W fun e w' => e = .returned (.pointer (some ⟨g, (c.path.length - 1) * 3, none⟩)) ∧ Fr [] W w') := Lib.hid fun W hW => by have := way_up W A a c.key _ c.path 0 g cap (hway.keep0 hW) hl0 hlen hs; simpa using this
  obtain ⟨BR, hBR⟩ : ∃ x, x = t.toward (c.up 0).node c.key := ⟨_, rfl⟩
  have HTO : Hid (∀ W, Fr [] w W → Calls Try.prog 46 #[pt b, .string c.key] W fun e w' => e = .returned BR.agg ∧ Fr [] W w') := Lib.hid fun W hW => by rw [hBR]; exact nd_toward _ _ b _ W (hW.keep hb2 (by simp)) no4 no5 no2 no3
  rw [← hBR] at hd1 hd2 hd3 ⊢
  have HCH : Hid (∀ W, Fr [] w W → Calls Try.prog 75 #[pt A.tb, BR.agg] W fun e w' => e = .returned (A.np (t.kid BR)) ∧ Cf X w' A a (t.ask BR.cell) c N ∧ Fr A.foot w w') := Lib.hid fun W hW => (nd_child A t BR W (h.tree.keep0 hW) hl hn hd1).mono fun e w' ⟨he, ht, hf⟩ =>
    ⟨he, (h.keep0 hW).treed0 hf ht, (hW.mono (by simp)).trans hf (fun x hx => Or.inl hx)⟩
  obtain ⟨K, hK⟩ : ∃ K, K = t.kid BR := ⟨_, rfl⟩
  obtain ⟨t1, ht1⟩ : ∃ t1, t1 = t.ask BR.cell := ⟨_, rfl⟩
  have hgl : ∀ l m, c.leaf t l m = c.leaf t1 l m := fun l m => by rw [ht1]; rfl
  have hgi : (t.nd K).inner = (t1.nd K).inner := by rw [ht1]; rfl
  rw [← hK] at hd1 hd2 hd3 HCH ⊢
  rw [← ht1] at HCH ⊢
  rw [hgl, hgi]
  have HD2 : Hid ((t1.nd K).inner = true → NdOk t1 K) := Lib.hid (by rw [ht1]; exact hd2)
  have HD3 : Hid ((t1.nd K).inner = false → LeafOk t1 c K .way) := Lib.hid (by rw [ht1]; exact hd3)
  have HD1 : Hid (K < t1.ns.length) := Lib.hid (by rw [ht1]; exact hd1)
  have HIV := Lib.hid (show ∀ W, Fr A.foot w W → Iv X w W from fun W hW => h.tree.iv hW)
  have H0 := Lib.hid h0
  have hin : g ∈ a.foot c.kd := CA.way_in hkd _ (by rw [WayAt.foot, hs]; simp [Value.ownBlock])
  have HG : Hid (∀ W, Fr A.foot w W → W.cell? ⟨g, (c.path.length - 1) * 3, none⟩ = some (pt b)) := Lib.hid fun W hW => hW.cell e0 (h.call.sep h.tree g hin)
  have HWC : Hid (∀ W, Fr A.foot w W → W.cell? ⟨a.wb, 0, none⟩ = some (pt A.tb) ∧ W.cell? ⟨a.wb, 1, none⟩ = some (.string c.key)) := Lib.hid fun W hW => ⟨hW.cell d0 (h.call.sep h.tree _ (CA.way_in hkd _ (by simp [WayAt.foot]))), hW.cell d1 (h.call.sep h.tree _ (CA.way_in hkd _ (by simp [WayAt.foot])))⟩
  have v0 := h0.cell
  obtain ⟨O, hO⟩ : ∃ O, O = (c.path.length - 1) * 3 := ⟨_, rfl⟩
  rw [← hO] at HUP HG e0
  have HDL := Lib.hid hlen
  have HC := Lib.hid h
  obtain ⟨bc, bf⟩ := BR
  unfold Br.agg at HTO HCH
  dsimp only at *
  obtain ⟨B, hB⟩ : ∃ B, B = (t1.nd K).inner := ⟨_, rfl⟩
  have HB := Lib.hid hB
  rw [← hB] at HD2 HD3 ⊢
  have HNEW : Hid (∀ W W' : World, Fr [] W W' → W.heap.size ≤ W'.heap.size) := Lib.hid fun W W' h => h.size
  clear h h0 hway hs hglt hgw hcell hfree hl0 no1 no2 no3 no4 no5 hb1 hb2 hpu hl hn hp hlen hkd d2 d3 hO hin hgl hgi hK ht1 hd1 hd2 hd3 hBR hB
  cases B
  · rw [if_neg Bool.false_ne_true]
    have hlo := HD3.out rfl
    have HLF : Hid (∀ W, Cf X W A a t1 c N → Calls Try.prog 71 #[A.np K, pt a.b1, pt a.b3, pt a.b4, pt a.b7] W (Post X W A a .rem N t1 (c.leaf t1 K .way))) := Lib.hid fun W hW => leaf_rem hW hk K hlo.1 (hlo.2.2.2.1 hk) hlo.2.1 .way
    clear hlo
    go_enter Try.func93, Try.ntmps93
    go_wp2_with fail
    go_region_held3 (fun W => W.cell? ⟨p, 0, none⟩ = some (pt a.wb) ∧ W.cell? ⟨a.wb, 0, none⟩ = some (pt A.tb) ∧ W.cell? ⟨a.wb, 1, none⟩ = some (.string c.key) ∧ W.cell? ⟨g, O, none⟩ = some (pt b)) (go_keep)
      (first
        | (go_at_call 56; refine (HUP.out _ (Fr.refl [] w).drew).mono ?_; rintro e w1 ⟨rfl, hf1⟩
           have hf := (Fr.refl [] w).drew.trans hf1 (by simp)
           have HF1 := Lib.hid hf
           have v0 := (H0.out.keep (hf.iv0 (X := X))).cell
           have d0 := hf.cell d0 (by simp)
           have d1 := hf.cell d1 (by simp)
           have e0 := hf.cell e0 (by simp)
           clear hf hf1)
        | (go_at_call 46; refine (HTO.out _ HF1.out).mono ?_; rintro e w2 ⟨rfl, hf2⟩
           have hf := HF1.out.trans hf2 (by simp)
           have HF2 := Lib.hid hf
           have v0 := (H0.out.keep (hf.iv0 (X := X))).cell
           have d0 := (HWC.out _ (hf.mono (by simp))).1
           have d1 := (HWC.out _ (hf.mono (by simp))).2
           have e0 := HG.out _ (hf.mono (by simp))
           clear hf hf2)
        | (go_at_call 75; refine (HCH.out _ HF2.out).mono ?_; rintro e w4 ⟨rfl, hc4, hf4⟩
           have HC4 := Lib.hid hc4
           have HF4 := Lib.hid hf4
           have v0 := (H0.out.keep (HIV.out _ hf4)).cell
           have d0 := (HWC.out _ hf4).1
           have d1 := (HWC.out _ hf4).2
           have e0 := HG.out _ hf4
           clear hc4 hf4))
    obtain ⟨nb, hnb, hnd⟩ := HC4.out.tree.node HD1.out
    have hlf := HLF.out _ HC4.out
    rw [hnb] at hlf ⊢
    obtain ⟨_, y1, _⟩ := nod_cells hnd
    rw [← HB.out] at y1
    obtain ⟨_, _, _, x3, _⟩ := way_cells (HC4.out.call.way (Or.inr hk))
    rw [hk] at x3
    unfold leafV fn at x3
    simp only [List.map_cons, List.map_nil] at x3
    have HLL := Lib.hid hlf
    clear hnb hnd hlf
    go_wp2_with (go_at_call 71; refine HLL.out.mono ?_; rintro e w9 hp9; obtain ⟨V, rfl, HRR⟩ := (hp9.treed HF4.out).ret; clear hp9)
    go_ret
    exact HRR.out
  · rw [if_pos rfl]
    have hok := HD2.out rfl
    have HPS : Hid (∀ W, Cf X W A a t1 c N → Calls Try.prog 77 #[pt a.wb, A.np K] W (TowPost X W A a .rem N t1 c K .way)) := Lib.hid fun W hW => tow_way hW hk (Or.inr rfl) K hok HDL.out
    have HLK : Hid (∀ W a', Cf X W A a' t1 (c.pass K) N → (∃ pv, a' = { a with pv := pv }) → Calls Try.prog 84 #[pt a.wb] W (Post X W A a' .rem N t1 (c.pass K, some .look))) := Lib.hid (by
      rintro W a' hW ⟨pv, rfl⟩
      exact bt_look hW hk)
    clear hok
    go_enter Try.func93, Try.ntmps93
    go_wp2_with fail
    go_region_held3 (fun W => W.cell? ⟨p, 0, none⟩ = some (pt a.wb) ∧ W.cell? ⟨a.wb, 0, none⟩ = some (pt A.tb) ∧ W.cell? ⟨a.wb, 1, none⟩ = some (.string c.key) ∧ W.cell? ⟨g, O, none⟩ = some (pt b)) (go_keep)
      (first
        | (go_at_call 56; refine (HUP.out _ (Fr.refl [] w).drew).mono ?_; rintro e w1 ⟨rfl, hf1⟩
           have hf := (Fr.refl [] w).drew.trans hf1 (by simp)
           have HF1 := Lib.hid hf
           have v0 := (H0.out.keep (hf.iv0 (X := X))).cell
           have d0 := hf.cell d0 (by simp)
           have d1 := hf.cell d1 (by simp)
           have e0 := hf.cell e0 (by simp)
           clear hf hf1)
        | (go_at_call 46; refine (HTO.out _ HF1.out).mono ?_; rintro e w2 ⟨rfl, hf2⟩
           have hf := HF1.out.trans hf2 (by simp)
           have HF2 := Lib.hid hf
           have v0 := (H0.out.keep (hf.iv0 (X := X))).cell
           have d0 := (HWC.out _ (hf.mono (by simp))).1
           have d1 := (HWC.out _ (hf.mono (by simp))).2
           have e0 := HG.out _ (hf.mono (by simp))
           clear hf hf2)
        | (go_at_call 75; refine (HCH.out _ HF2.out).mono ?_; rintro e w4 ⟨rfl, hc4, hf4⟩
           have HC4 := Lib.hid hc4
           have HF4 := Lib.hid hf4
           have v0 := (H0.out.keep (HIV.out _ hf4)).cell
           have d0 := (HWC.out _ hf4).1
           have d1 := (HWC.out _ hf4).2
           have e0 := HG.out _ hf4
           clear hc4 hf4))
    obtain ⟨nb, hnb, hnd⟩ := HC4.out.tree.node HD1.out
    have hps := HPS.out _ HC4.out
    rw [hnb] at hps ⊢
    obtain ⟨_, y1, _⟩ := nod_cells hnd
    rw [← HB.out] at y1
    have HPP := Lib.hid hps
    clear hnb hnd hps
    go_wp2_with (go_at_call 77; refine HPP.out.mono ?_; rintro e w5 ⟨a', ha', rfl, hc5, hk5, hf5, hx5⟩; refine go_stop ?_)
    unfold Stop
    have HC5 : Hid (Cf X w5 A a' t1 (c.pass K) N) := Lib.hid hc5
    have HA5 := Lib.hid ha'
    have HF5 := Lib.hid (hf5.mono (T := Both A a .rem) (fun k hk => Or.inl (List.mem_append_right _ hk)))
    have HX5 := Lib.hid hx5
    have v5 := (H0.out.keep ((HIV.out _ HF4.out).trans (by have := HC4.out.call.mut; rw [hk] at this; exact hf5.iv this))).cell
    clear hc5 ha' hf5 hx5 hk5 v0 d0 d1 e0
    go_wp2_with (go_at_call 84; refine (HLK.out _ _ HC5.out HA5.out).mono ?_; rintro e w9 hp9; obtain ⟨V, rfl, HRR⟩ := ((Post.both hp9 HA5.out HF5.out HX5.out).treed HF4.out).ret; clear hp9)
    go_ret
    exact HRR.out
end Go.Proofs.Ythiobdhdefimhaa
