/- PACKAGE bst: look, down
PACKAGE bst: down (written by bst_down.py)
PACKAGE bst: take, drop, mark
PACKAGE bst: mark -/
import Derived.Test.YtmhiolhgofackaaBsDesc
namespace Go.Proofs.Ytmhiolhgofackaa
open Go.RowKit
set_option linter.unusedVariables false
set_option linter.unusedSimpArgs false

theorem isU_at {m : MS} (h : ∀ x ∈ m.c, IsU x) (k : Int) : IsU (m.at k) := by
  unfold MS.at
  split
  · rw [List.getD_eq_getElem?_getD]
    cases hh : m.c[k.toNat]? with
    | none => exact ⟨Int.le_refl _, by decide⟩
    | some x => exact h x (List.mem_of_getElem? hh)
  · exact ⟨Int.le_refl _, by decide⟩
set_option maxHeartbeats 4000000 in
theorem step_look {X : List Nat} {w : World} {A : TA} {a : CA} {t : Tr} {c : Cl} {N : Value} {kd : Kd} (h : Cf X w A a t c N) (hk : c.kd = kd) (hkd : kd = .ins ∨ kd = .rem) (p : Nat) (h0 : Va X w p 111 (pt a.wb)) (hl : t.ms.c.length ≤ 65536) (hn : t.ms.n ≤ 1000000000000)
    (hw : t.ws.length ≤ 1000000000) (hp : c.path ≠ []) (hlen : c.path.length ≤ 1000000000) (hno : NdOk t (c.up 0).node) (hu : IsU (t.ms.at (t.word (c.up 0).node))) (hh : HlpOk t (t.ms.at (t.word (c.up 0).node))) :
    Calls Try.prog 90 #[pt p] w (Post X w A a kd N (t.ask (t.word (c.up 0).node)) (c.met t (t.ms.at (t.word (c.up 0).node)))) := by
  subst hk
  have hway := h.call.way hkd
  obtain ⟨g, cap, hs, hglt, hgw, hcell, hfree⟩ := hway.slice hp
  have hl0 : 0 < c.path.length := List.length_pos_iff.2 hp
  obtain ⟨no1, no2, no3, no4, no5⟩ := hno
  obtain ⟨b, hb1, hb2⟩ := h.tree.node no1
  have hpu := c.up_get 0 hl0
  simp only [Nat.sub_zero] at hpu
  obtain ⟨e0, _⟩ := hcell _ _ hpu
  rw [hb1] at e0
  obtain ⟨d0, d1, d2, d3, _⟩ := way_cells hway
  obtain ⟨q0, _⟩ := tree_cells h.tree.toTreeB
  have HUP : Hid (∀ W, Fr [] w W → Calls Try.prog 53 #[pt a.wb, .int .i64 0] W fun e w' => e = .returned (.pointer (some ⟨g, (c.path.length - 1) * 3, none⟩)) ∧ Fr [] W w') := Lib.hid fun W hW => by have := way_up W A a c.key _ c.path 0 g cap (hway.keep0 hW) hl0 hlen hs; simpa using this
  have HWD : Hid (∀ W, Fr [] w W → Calls Try.prog 73 #[pt b] W fun e w' => e = .returned (.int .i64 (t.word (c.up 0).node)) ∧ W = w') := Lib.hid fun W hW => nd_word _ _ b W (hW.keep hb2 (by simp)) no4 no5
  have HLD : Hid (∀ W, Fr [] w W → Calls Try.prog 83 #[pt A.mb, .int .i64 (t.word (c.up 0).node)] W fun e w' => e = .returned (.tuple #[.int .u64 (t.ms.at (t.word (c.up 0).node)), .int .i64 (t.ms.err (t.word (c.up 0).node))]) ∧ Cf X w' A a (t.ask (t.word (c.up 0).node)) c N ∧ Fr A.foot w w' ∧ Fr A.foot W w') := Lib.hid fun W hW => ((h.tree.keep0 hW).load hl hn _).mono fun e w' ⟨he, ht, hf⟩ =>
    ⟨he, (h.keep0 hW).treed0 hf ht, (hW.mono (by simp)).trans hf (fun x hx => Or.inl hx), hf⟩
  obtain ⟨WD, hWD⟩ : ∃ x, x = t.word (c.up 0).node := ⟨_, rfl⟩
  rw [← hWD] at HWD HLD hu hh ⊢
  obtain ⟨WAS, hWAS⟩ : ∃ x, x = t.ms.at WD := ⟨_, rfl⟩
  rw [← hWAS] at HLD hu hh ⊢
  obtain ⟨ERR, hERR⟩ : ∃ x, x = t.ms.err WD := ⟨_, rfl⟩
  rw [← hERR] at HLD
  have HMT : Hid (∀ W, Cf X W A a (t.ask WD) c N → Calls Try.prog 55 #[pt a.wb, .int .u64 WAS] W (Post X W A a c.kd N (t.ask WD) (c.met t WAS))) := Lib.hid fun W hW => bt_met hW rfl hkd WAS hu hh hw hp hlen
  have HIV := Lib.hid (show ∀ W, Fr A.foot w W → Iv X w W from fun W hW => h.tree.iv hW)
  have H0 := Lib.hid h0
  have HC := Lib.hid h
  have HG : Hid (g < w.heap.size ∧ ∀ W, Fr A.foot w W → W.cell? ⟨g, (c.path.length - 1) * 3, none⟩ = some (pt b)) := Lib.hid ⟨hglt, fun W hW => by
    refine hW.cell e0 ?_
    have hin : g ∈ a.foot c.kd := CA.way_in hkd _ (by rw [WayAt.foot, hs]; simp [Value.ownBlock])
    exact h.call.sep h.tree g hin⟩
  have HWC : Hid (∀ W, Fr A.foot w W → W.cell? ⟨a.wb, 0, none⟩ = some (pt A.tb)) := Lib.hid fun W hW => hW.cell d0 (h.call.sep h.tree _ (CA.way_in hkd _ (by simp [WayAt.foot])))
  have v0 := h0.cell
  obtain ⟨O, hO⟩ : ∃ O, O = (c.path.length - 1) * 3 := ⟨_, rfl⟩
  rw [← hO] at HUP HG e0
  have hb3 := (tree_cells h.tree.toTreeB).1
  clear h h0 hway hs hglt hgw hcell hfree hl0 no1 no2 no3 no4 no5 hb1 hb2 hpu hu hh hWD hWAS hERR hl hn hw hp hlen hkd d1 d2 d3 hO hb3
  go_enter Try.func90, Try.ntmps90
  go_wp2_with fail
  go_region_held3 (fun W => W.cell? ⟨p, 0, none⟩ = some (pt a.wb) ∧ W.cell? ⟨a.wb, 0, none⟩ = some (pt A.tb) ∧ W.cell? ⟨A.tb, 0, none⟩ = some (pt A.mb) ∧ W.cell? ⟨g, O, none⟩ = some (pt b)) (go_keep)
    (first
      | (go_at_call 53; refine (HUP.out _ (Fr.refl [] w).drew).mono ?_; rintro e w1 ⟨rfl, hf1⟩
         have hf := (Fr.refl [] w).drew.trans hf1 (by simp)
         have HF1 := Lib.hid hf
         have v0 := (H0.out.keep (hf.iv0 (X := X))).cell
         have d0 := hf.cell d0 (by simp)
         have q0 := hf.cell q0 (by simp)
         have e0 := hf.cell e0 (by simp)
         clear hf hf1)
      | (go_at_call 73; refine (HWD.out _ HF1.out).mono ?_; rintro e w2 ⟨rfl, rfl⟩)
      | (go_at_call 83; refine (HLD.out _ HF1.out).mono ?_; rintro e w4 ⟨rfl, hc4, hf4, hf5⟩
         have HC4 := Lib.hid hc4
         have HF4 := Lib.hid hf4
         have v0 := (H0.out.keep (HIV.out _ hf4)).cell
         have d0 := HWC.out _ hf4
         have e0 := HG.out.2 _ hf4
         obtain ⟨q0, _⟩ := tree_cells hc4.tree.toTreeB
         clear hc4 hf4 hf5))
  all_goals go_wp2_with (go_at_call 55; refine (HMT.out _ HC4.out).mono ?_; rintro e w9 hp9; obtain ⟨V, rfl, HRR⟩ := (hp9.treed HF4.out).ret; clear hp9)
  all_goals go_ret
  all_goals exact HRR.out
end Go.Proofs.Ytmhiolhgofackaa
namespace Go.Proofs.Ytmhiolhgofackaa
open Go.RowKit
set_option linter.unusedVariables false
set_option linter.unusedSimpArgs false

set_option maxHeartbeats 4000000 in
theorem step_down_ins {X : List Nat} {w : World} {A : TA} {a : CA} {t : Tr} {c : Cl} {N : Value} (h : Cf X w A a t c N) (hk : c.kd = .ins) (p : Nat) (h0 : Va X w p 111 (pt a.wb)) (hl : t.ms.c.length ≤ 65536) (hn : t.ms.n ≤ 1000000000000)
    (hp : c.path ≠ []) (hlen : c.path.length ≤ 1000000000) (hno : NdOk t (c.up 0).node) (hd : DescOk t c (t.kid (t.toward (c.up 0).node c.key)) .way) :
    Calls Try.prog 86 #[pt p] w (Post X w A a .ins N (t.ask (t.toward (c.up 0).node c.key).cell) (if (t.nd (t.kid (t.toward (c.up 0).node c.key))).inner then (c.pass (t.kid (t.toward (c.up 0).node c.key)), some .look) else c.leaf t (t.kid (t.toward (c.up 0).node c.key)) .way)) := by
  have hkd : c.kd = .ins ∨ c.kd = .rem := Or.inl hk
  have hway := h.call.way hkd
  obtain ⟨g, cap, hs, hglt, hgw, hcell, hfree⟩ := hway.slice hp
  have hl0 : 0 < c.path.length := List.length_pos_iff.2 hp
  obtain ⟨no1, no2, no3, no4, no5⟩ := hno
  obtain ⟨b, hb1, hb2⟩ := h.tree.node no1
  have hpu := c.up_get 0 hl0
  simp only [Nat.sub_zero] at hpu
  obtain ⟨e0, _⟩ := hcell _ _ hpu
  rw [hb1] at e0
  obtain ⟨d0, d1, d2, d3, _⟩ := way_cells hway
  obtain ⟨hd1, _, hd2, hd3⟩ := hd
  have HUP : Hid (∀ W, Fr [] w W → Calls Try.prog 53 #[pt a.wb, .int .i64 0] W fun e w' => e = .returned (.pointer (some ⟨g, (c.path.length - 1) * 3, none⟩)) ∧ Fr [] W w') := Lib.hid fun W hW => by have := way_up W A a c.key _ c.path 0 g cap (hway.keep0 hW) hl0 hlen hs; simpa using this
  obtain ⟨BR, hBR⟩ : ∃ x, x = t.toward (c.up 0).node c.key := ⟨_, rfl⟩
  have HTO : Hid (∀ W, Fr [] w W → Calls Try.prog 44 #[pt b, .string c.key] W fun e w' => e = .returned BR.agg ∧ Fr [] W w') := Lib.hid fun W hW => by rw [hBR]; exact nd_toward _ _ b _ W (hW.keep hb2 (by simp)) no4 no5 no2 no3
  rw [← hBR] at hd1 hd2 hd3 ⊢
  have HCH : Hid (∀ W, Fr [] w W → Calls Try.prog 69 #[pt A.tb, BR.agg] W fun e w' => e = .returned (A.np (t.kid BR)) ∧ Cf X w' A a (t.ask BR.cell) c N ∧ Fr A.foot w w') := Lib.hid fun W hW => (nd_child A t BR W (h.tree.keep0 hW) hl hn hd1).mono fun e w' ⟨he, ht, hf⟩ =>
    ⟨he, (h.keep0 hW).treed0 hf ht, (hW.mono (by simp)).trans hf (fun x hx => Or.inl hx)⟩
  obtain ⟨K, hK⟩ : ∃ K, K = t.kid BR := ⟨_, rfl⟩
  obtain ⟨t1, ht1⟩ : ∃ t1, t1 = t.ask BR.cell := ⟨_, rfl⟩
  have hgl : ∀ l m, c.leaf t l m = c.leaf t1 l m := fun l m => by rw [ht1]; rfl
  have hgi : (t.nd K).inner = (t1.nd K).inner := by rw [ht1]; rfl
  rw [← hK] at hd1 hd2 hd3 HCH ⊢
  rw [← ht1] at HCH ⊢
  rw [hgl, hgi]
  have HD2 : Hid ((t1.nd K).inner = true → NdOk t1 K) := Lib.hid (by rw [ht1]; exact hd2)
  have HD3 : Hid ((t1.nd K).inner = false → LeafOk t1 c K .way) := Lib.hid (by rw [ht1]; exact hd3)
  have HD1 : Hid (K < t1.ns.length) := Lib.hid (by rw [ht1]; exact hd1)
  have HIV := Lib.hid (show ∀ W, Fr A.foot w W → Iv X w W from fun W hW => h.tree.iv hW)
  have H0 := Lib.hid h0
  have hin : g ∈ a.foot c.kd := CA.way_in hkd _ (by rw [WayAt.foot, hs]; simp [Value.ownBlock])
  have HG : Hid (∀ W, Fr A.foot w W → W.cell? ⟨g, (c.path.length - 1) * 3, none⟩ = some (pt b)) := Lib.hid fun W hW => hW.cell e0 (h.call.sep h.tree g hin)
  have HWC : Hid (∀ W, Fr A.foot w W → W.cell? ⟨a.wb, 0, none⟩ = some (pt A.tb) ∧ W.cell? ⟨a.wb, 1, none⟩ = some (.string c.key)) := Lib.hid fun W hW => ⟨hW.cell d0 (h.call.sep h.tree _ (CA.way_in hkd _ (by simp [WayAt.foot]))), hW.cell d1 (h.call.sep h.tree _ (CA.way_in hkd _ (by simp [WayAt.foot])))⟩
  have v0 := h0.cell
  obtain ⟨O, hO⟩ : ∃ O, O = (c.path.length - 1) * 3 := ⟨_, rfl⟩
  rw [← hO] at HUP HG e0
  have HDL := Lib.hid hlen
  have HC := Lib.hid h
  obtain ⟨bc, bf⟩ := BR
  unfold Br.agg at HTO HCH
  dsimp only at *
  obtain ⟨B, hB⟩ : ∃ B, B = (t1.nd K).inner := ⟨_, rfl⟩
  have HB := Lib.hid hB
  rw [← hB] at HD2 HD3 ⊢
  have HNEW : Hid (∀ W W' : World, Fr [] W W' → W.heap.size ≤ W'.heap.size) := Lib.hid fun W W' h => h.size
  clear h h0 hway hs hglt hgw hcell hfree hl0 no1 no2 no3 no4 no5 hb1 hb2 hpu hl hn hp hlen hkd d2 d3 hO hin hgl hgi hK ht1 hd1 hd2 hd3 hBR hB
  cases B
  · rw [if_neg Bool.false_ne_true]
    have hlo := HD3.out rfl
    have HLF : Hid (∀ W, Cf X W A a t1 c N → Calls Try.prog 59 #[A.np K, pt a.b1, pt a.b3, pt a.b5, pt a.b4, pt a.b7] W (Post X W A a .ins N t1 (c.leaf t1 K .way))) := Lib.hid fun W hW => leaf_ins hW hk K hlo.1 (hlo.2.2.1 hk) hlo.2.1 .way
    clear hlo
    go_enter Try.func86, Try.ntmps86
    go_wp2_with fail
    go_region_held3 (fun W => W.cell? ⟨p, 0, none⟩ = some (pt a.wb) ∧ W.cell? ⟨a.wb, 0, none⟩ = some (pt A.tb) ∧ W.cell? ⟨a.wb, 1, none⟩ = some (.string c.key) ∧ W.cell? ⟨g, O, none⟩ = some (pt b)) (go_keep)
      (first
        | (go_at_call 53; refine (HUP.out _ (Fr.refl [] w).drew).mono ?_; rintro e w1 ⟨rfl, hf1⟩
           have hf := (Fr.refl [] w).drew.trans hf1 (by simp)
           have HF1 := Lib.hid hf
           have v0 := (H0.out.keep (hf.iv0 (X := X))).cell
           have d0 := hf.cell d0 (by simp)
           have d1 := hf.cell d1 (by simp)
           have e0 := hf.cell e0 (by simp)
           clear hf hf1)
        | (go_at_call 44; refine (HTO.out _ HF1.out).mono ?_; rintro e w2 ⟨rfl, hf2⟩
           have hf := HF1.out.trans hf2 (by simp)
           have HF2 := Lib.hid hf
           have v0 := (H0.out.keep (hf.iv0 (X := X))).cell
           have d0 := (HWC.out _ (hf.mono (by simp))).1
           have d1 := (HWC.out _ (hf.mono (by simp))).2
           have e0 := HG.out _ (hf.mono (by simp))
           clear hf hf2)
        | (go_at_call 69; refine (HCH.out _ HF2.out).mono ?_; rintro e w4 ⟨rfl, hc4, hf4⟩
           have HC4 := Lib.hid hc4
           have HF4 := Lib.hid hf4
           have v0 := (H0.out.keep (HIV.out _ hf4)).cell
           have d0 := (HWC.out _ hf4).1
           have d1 := (HWC.out _ hf4).2
           have e0 := HG.out _ hf4
           clear hc4 hf4))
    obtain ⟨nb, hnb, hnd⟩ := HC4.out.tree.node HD1.out
    have hlf := HLF.out _ HC4.out
    rw [hnb] at hlf ⊢
    obtain ⟨_, y1, _⟩ := nod_cells hnd
    rw [← HB.out] at y1
    obtain ⟨_, _, _, x3, _⟩ := way_cells (HC4.out.call.way (Or.inl hk))
    rw [hk] at x3
    unfold leafV fn at x3
    simp only [List.map_cons, List.map_nil] at x3
    have HLL := Lib.hid hlf
    clear hnb hnd hlf
    go_wp2_with (go_at_call 59; refine HLL.out.mono ?_; rintro e w9 hp9; obtain ⟨V, rfl, HRR⟩ := (hp9.treed HF4.out).ret; clear hp9)
    go_ret
    exact HRR.out
  · rw [if_pos rfl]
    have hok := HD2.out rfl
    have HPS : Hid (∀ W, Cf X W A a t1 c N → Calls Try.prog 71 #[pt a.wb, A.np K] W (TowPost X W A a .ins N t1 c K .way)) := Lib.hid fun W hW => tow_way hW hk (Or.inl rfl) K hok HDL.out
    have HLK : Hid (∀ W a', Cf X W A a' t1 (c.pass K) N → (∃ pv, a' = { a with pv := pv }) → Calls Try.prog 78 #[pt a.wb] W (Post X W A a' .ins N t1 (c.pass K, some .look))) := Lib.hid (by
      rintro W a' hW ⟨pv, rfl⟩
      exact bt_look hW hk)
    clear hok
    go_enter Try.func86, Try.ntmps86
    go_wp2_with fail
    go_region_held3 (fun W => W.cell? ⟨p, 0, none⟩ = some (pt a.wb) ∧ W.cell? ⟨a.wb, 0, none⟩ = some (pt A.tb) ∧ W.cell? ⟨a.wb, 1, none⟩ = some (.string c.key) ∧ W.cell? ⟨g, O, none⟩ = some (pt b)) (go_keep)
      (first
        | (go_at_call 53; refine (HUP.out _ (Fr.refl [] w).drew).mono ?_; rintro e w1 ⟨rfl, hf1⟩
           have hf := (Fr.refl [] w).drew.trans hf1 (by simp)
           have HF1 := Lib.hid hf
           have v0 := (H0.out.keep (hf.iv0 (X := X))).cell
           have d0 := hf.cell d0 (by simp)
           have d1 := hf.cell d1 (by simp)
           have e0 := hf.cell e0 (by simp)
           clear hf hf1)
        | (go_at_call 44; refine (HTO.out _ HF1.out).mono ?_; rintro e w2 ⟨rfl, hf2⟩
           have hf := HF1.out.trans hf2 (by simp)
           have HF2 := Lib.hid hf
           have v0 := (H0.out.keep (hf.iv0 (X := X))).cell
           have d0 := (HWC.out _ (hf.mono (by simp))).1
           have d1 := (HWC.out _ (hf.mono (by simp))).2
           have e0 := HG.out _ (hf.mono (by simp))
           clear hf hf2)
        | (go_at_call 69; refine (HCH.out _ HF2.out).mono ?_; rintro e w4 ⟨rfl, hc4, hf4⟩
           have HC4 := Lib.hid hc4
           have HF4 := Lib.hid hf4
           have v0 := (H0.out.keep (HIV.out _ hf4)).cell
           have d0 := (HWC.out _ hf4).1
           have d1 := (HWC.out _ hf4).2
           have e0 := HG.out _ hf4
           clear hc4 hf4))
    obtain ⟨nb, hnb, hnd⟩ := HC4.out.tree.node HD1.out
    have hps := HPS.out _ HC4.out
    rw [hnb] at hps ⊢
    obtain ⟨_, y1, _⟩ := nod_cells hnd
    rw [← HB.out] at y1
    have HPP := Lib.hid hps
    clear hnb hnd hps
    go_wp2_with (go_at_call 71; refine HPP.out.mono ?_; rintro e w5 ⟨a', ha', rfl, hc5, hk5, hf5, hx5⟩; refine go_stop ?_)
    unfold Stop
    have HC5 : Hid (Cf X w5 A a' t1 (c.pass K) N) := Lib.hid hc5
    have HA5 := Lib.hid ha'
    have HF5 := Lib.hid (hf5.mono (T := Both A a .ins) (fun k hk => Or.inl (List.mem_append_right _ hk)))
    have HX5 := Lib.hid hx5
    have v5 := (H0.out.keep ((HIV.out _ HF4.out).trans (by have := HC4.out.call.mut; rw [hk] at this; exact hf5.iv this))).cell
    clear hc5 ha' hf5 hx5 hk5 v0 d0 d1 e0
    go_wp2_with (go_at_call 78; refine (HLK.out _ _ HC5.out HA5.out).mono ?_; rintro e w9 hp9; obtain ⟨V, rfl, HRR⟩ := ((Post.both hp9 HA5.out HF5.out HX5.out).treed HF4.out).ret; clear hp9)
    go_ret
    exact HRR.out

end Go.Proofs.Ytmhiolhgofackaa
namespace Go.Proofs.Ytmhiolhgofackaa
open Go.RowKit
set_option linter.unusedVariables false
set_option linter.unusedSimpArgs false

theorem WkB.keepI {X : List Nat} {w w' : World} {A : TA} {b i : Nat} {o : Wk} (h : WkB w A b i o) (hi : Iv X w w') : WkB w' A b i o := hi.keep _ _ h wk_imm
/-- what is done at a work's nodes -/
def WkOk (t : Tr) (o : Nat) : Prop := 1 ≤ o ∧ o ≤ t.ws.length ∧ NdOk t (t.wk o).at_ ∧ (t.wk o).old < t.ns.length
set_option maxHeartbeats 4000000 in
theorem step_take {X : List Nat} {w : World} {A : TA} {a : CA} {t : Tr} {c : Cl} {N : Value} {kd : Kd} (h : Cf X w A a t c N) (hk : c.kd = kd) (o nx : Nat) (th : Th) (T : Value) (p0 p1 p2 p3 : Nat) (h0 : Va X w p0 96 (pt A.tb)) (h1 : Va X w p1 115 (A.wp o)) (h2 : Va X w p2 45 (A.np nx))
    (h3 : Va X w p3 59 T) (hT : ThAt X w A a kd T th) (hl : t.ms.c.length ≤ 65536) (hn : t.ms.n ≤ 1000000000000) (ho : WkOk t o) (hnx : nx < t.ns.length) :
    Calls Try.prog 79 #[pt p0, pt p1, pt p2, pt p3] w (Post X w A a kd N (t.turn (t.toward (t.wk o).at_ (t.wk o).key) (t.wk o).old nx) (c, some (.fin o th))) := by
  obtain ⟨ho1, ho2, ⟨no1, no2, no3, no4, no5⟩, ho4⟩ := ho
  obtain ⟨ob, hob1, hob2⟩ := h.tree.work ho1 ho2
  obtain ⟨ab, hab1, hab2⟩ := h.tree.node no1
  obtain ⟨BR, hBR⟩ : ∃ x, x = t.toward (t.wk o).at_ (t.wk o).key := ⟨_, rfl⟩
  have HTO : Hid (∀ W, Fr [] w W → Calls Try.prog 44 #[pt ab, .string (t.wk o).key] W fun e w' => e = .returned BR.agg ∧ Fr [] W w') := Lib.hid fun W hW => by rw [hBR]; exact nd_toward _ _ ab _ W (hW.keep hab2 (by simp)) no4 no5 no2 no3
  rw [← hBR]
  obtain ⟨ol, hol1, _⟩ := h.tree.node ho4
  obtain ⟨nb, hnb1, _⟩ := h.tree.node hnx
  have HTU : Hid (∀ W, Fr [] w W → Calls Try.prog 80 #[pt A.tb, BR.agg, pt ol, pt nb] W fun e w' => e = .returned (.tuple #[]) ∧ Cf X w' A a (t.turn BR (t.wk o).old nx) c N ∧ Fr A.foot w w') := Lib.hid fun W hW => by
    have := nd_turn A t BR (t.wk o).old nx W (h.tree.keep0 hW) hl hn ho4 hnx
    rw [hol1, hnb1] at this
    exact this.mono fun e w' ⟨he, ht, hf⟩ => ⟨he, (h.keep0 hW).treed0 hf ht, (hW.mono (by simp)).trans hf (fun x hx => Or.inl hx)⟩
  obtain ⟨t1, ht1⟩ : ∃ t1, t1 = t.turn BR (t.wk o).old nx := ⟨_, rfl⟩
  rw [← ht1] at HTU ⊢
  have HEN : Hid (∀ W, Cf X W A a t1 c N → Iv X w W → Calls Try.prog 81 #[pt A.tb, pt ob, T] W (Post X W A a kd N t1 (c, some (.fin o th)))) := Lib.hid fun W hW hi => by
    have := bt_end hW hk o th T (hT.keep hi)
    rw [hob1] at this
    exact this
  have HIV := Lib.hid (show ∀ W, Fr A.foot w W → Iv X w W from fun W hW => h.tree.iv hW)
  rw [hob1] at h1
  rw [hnb1] at h2
  have H0 := Lib.hid h0
  have H1 := Lib.hid h1
  have H2 := Lib.hid h2
  have H3 := Lib.hid h3
  have HW := Lib.hid hob2
  have v0 := h0.cell
  have v1 := h1.cell
  have v2 := h2.cell
  obtain ⟨_, _, y2, y3, y4, _, _⟩ := wk_cells hob2
  rw [hab1] at y3
  rw [hol1] at y4
  have HAB := Lib.hid hab1
  have HOL := Lib.hid hol1
  obtain ⟨f, x, y, hTf⟩ := Th.form hT
  subst hTf
  obtain ⟨KEY, hKEY⟩ : ∃ k, k = (t.wk o).key := ⟨_, rfl⟩
  rw [← hKEY] at HTO y2
  have HKEY := Lib.hid hKEY
  obtain ⟨bc, bf⟩ := BR
  unfold Br.agg at HTO HTU
  dsimp only at HTO HTU
  clear h h0 h1 h2 h3 hT hl hn ho1 ho2 no1 no2 no3 no4 no5 ho4 hnx hob1 hob2 hab1 hab2 hol1 hnb1 ht1 hBR hKEY
  go_enter Try.func79, Try.ntmps79
  go_wp2_with fail
  go_region_held3 (fun W => W.cell? ⟨p0, 0, none⟩ = some (pt A.tb) ∧ W.cell? ⟨p1, 0, none⟩ = some (pt ob) ∧ W.cell? ⟨p2, 0, none⟩ = some (pt nb) ∧ W.cell? ⟨ob, 2, none⟩ = some (.string KEY) ∧ W.cell? ⟨ob, 3, none⟩ = some (pt ab) ∧ W.cell? ⟨ob, 4, none⟩ = some (pt ol)) (go_keep)
    (first
      | (go_at_call 44; refine (HTO.out _ (Fr.refl [] w).drew).mono ?_; rintro e w2 ⟨rfl, hf2⟩
         have hf := (Fr.refl [] w).drew.trans hf2 (by simp)
         have HF2 := Lib.hid hf
         have hi := hf.iv0 (X := X)
         have v0 := (H0.out.keep hi).cell
         have v1 := (H1.out.keep hi).cell
         have v2 := (H2.out.keep hi).cell
         obtain ⟨_, _, y2, y3, y4, _, _⟩ := wk_cells (HW.out.keepI hi)
         rw [HAB.out] at y3
         rw [HOL.out] at y4
         rw [← HKEY.out] at y2
         clear hf hf2 hi)
      | (go_at_call 80; refine (HTU.out _ HF2.out).mono ?_; rintro e w4 ⟨rfl, hc4, hf4⟩
         have HC4 := Lib.hid hc4
         have HF4 := Lib.hid hf4
         have hi := HIV.out _ hf4
         have v0 := (H0.out.keep hi).cell
         have v1 := (H1.out.keep hi).cell
         have v2 := (H2.out.keep hi).cell
         have v3 := (H3.out.keep hi).cell
         obtain ⟨_, _, y2, y3, y4, _, _⟩ := wk_cells (HW.out.keepI hi)
         rw [HAB.out] at y3
         rw [HOL.out] at y4
         rw [← HKEY.out] at y2
         clear hc4 hf4 hi))
  all_goals go_wp2_with (go_at_call 81; refine (HEN.out _ HC4.out (HIV.out _ HF4.out)).mono ?_; rintro e w9 hp9; obtain ⟨V, rfl, HRR⟩ := (hp9.treed HF4.out).ret; clear hp9)
  all_goals go_ret
  all_goals exact HRR.out
set_option maxHeartbeats 4000000 in
theorem step_drop {X : List Nat} {w : World} {A : TA} {a : CA} {t : Tr} {c : Cl} {N : Value} {kd : Kd} (h : Cf X w A a t c N) (hk : c.kd = kd) (o : Nat) (th : Th) (T : Value) (p0 p1 p2 : Nat) (h0 : Va X w p0 96 (pt A.tb)) (h1 : Va X w p1 115 (A.wp o))
    (h3 : Va X w p2 59 T) (hT : ThAt X w A a kd T th) (hl : t.ms.c.length ≤ 65536) (hn : t.ms.n ≤ 1000000000000) (ho1 : 1 ≤ o) (ho2 : o ≤ t.ws.length) (hno : NdOk t (t.wk o).old) (hkid : t.kid (t.beside (t.wk o).old (t.wk o).key) < t.ns.length) :
    Calls Try.prog 94 #[pt p0, pt p1, pt p2] w (Post X w A a kd N (t.ask (t.beside (t.wk o).old (t.wk o).key).cell) (c, some (.take o (t.kid (t.beside (t.wk o).old (t.wk o).key)) th))) := by
  obtain ⟨no1, no2, no3, no4, no5⟩ := hno
  obtain ⟨ob, hob1, hob2⟩ := h.tree.work ho1 ho2
  obtain ⟨ab, hab1, hab2⟩ := h.tree.node no1
  obtain ⟨BR, hBR⟩ : ∃ x, x = t.beside (t.wk o).old (t.wk o).key := ⟨_, rfl⟩
  have HTO : Hid (∀ W, Fr [] w W → Calls Try.prog 95 #[pt ab, .string (t.wk o).key] W fun e w' => e = .returned BR.agg ∧ Fr [] W w') := Lib.hid fun W hW => by rw [hBR]; exact nd_beside _ _ ab _ W (hW.keep hab2 (by simp)) no4 no5 no2 no3
  rw [← hBR] at hkid ⊢
  have HCH : Hid (∀ W, Fr [] w W → Calls Try.prog 69 #[pt A.tb, BR.agg] W fun e w' => e = .returned (A.np (t.kid BR)) ∧ Cf X w' A a (t.ask BR.cell) c N ∧ Fr A.foot w w') := Lib.hid fun W hW => (nd_child A t BR W (h.tree.keep0 hW) hl hn hkid).mono fun e w' ⟨he, ht, hf⟩ =>
    ⟨he, (h.keep0 hW).treed0 hf ht, (hW.mono (by simp)).trans hf (fun x hx => Or.inl hx)⟩
  obtain ⟨K, hK⟩ : ∃ K, K = t.kid BR := ⟨_, rfl⟩
  obtain ⟨t1, ht1⟩ : ∃ t1, t1 = t.ask BR.cell := ⟨_, rfl⟩
  obtain ⟨nb, hnb1, _⟩ := h.tree.node hkid
  rw [hnb1] at HCH
  rw [← hK] at hnb1 ⊢
  rw [← ht1] at HCH ⊢
  have HEN : Hid (∀ W W', Cf X W A a t1 c N → Iv X w W → Fr [] W W' → Calls Try.prog 57 #[pt A.tb, pt ob, pt nb, T] W' (fun e w' => Post X W A a kd N t1 (c, some (.take o K th)) e w' ∧ Iv X W w')) := Lib.hid fun W W' hW hi hf => by
    have := bt_take (hW.keep0 hf) hk o K th T ((hT.keep hi).keep hf.iv0)
    rw [hob1, hnb1] at this
    exact this.mono fun e w' hp => ⟨hp.after0 hf, Post.iv hW (by rw [hk]; exact hp.after0 hf)⟩
  have HIV := Lib.hid (show ∀ W, Fr A.foot w W → Iv X w W from fun W hW => h.tree.iv hW)
  rw [hob1] at h1
  have H0 := Lib.hid h0
  have H1 := Lib.hid h1
  have H3 := Lib.hid h3
  have HW := Lib.hid hob2
  have v0 := h0.cell
  have v1 := h1.cell
  have v3 := h3.cell
  obtain ⟨_, _, y2, _, y4, _, _⟩ := wk_cells hob2
  rw [hab1] at y4
  have HAB := Lib.hid hab1
  obtain ⟨f, x, y, hTf⟩ := Th.form hT
  subst hTf
  obtain ⟨KEY, hKEY⟩ : ∃ k, k = (t.wk o).key := ⟨_, rfl⟩
  rw [← hKEY] at HTO y2
  have HKEY := Lib.hid hKEY
  obtain ⟨bc, bf⟩ := BR
  unfold Br.agg at HTO HCH
  dsimp only at HTO HCH
  clear h h0 h1 h3 hT hl hn ho1 ho2 no1 no2 no3 no4 no5 hkid hob1 hob2 hab1 hab2 hnb1 ht1 hBR hKEY hK
  go_enter Try.func94, Try.ntmps94
  go_wp2_with fail
  go_region_held3 (fun W => W.cell? ⟨p0, 0, none⟩ = some (pt A.tb) ∧ W.cell? ⟨p1, 0, none⟩ = some (pt ob) ∧ W.cell? ⟨p2, 0, none⟩ = some (.func f x y) ∧ W.cell? ⟨ob, 2, none⟩ = some (.string KEY) ∧ W.cell? ⟨ob, 4, none⟩ = some (pt ab)) (go_keep)
    (first
      | (go_at_call 95; refine (HTO.out _ (Fr.refl [] w).drew).mono ?_; rintro e w2 ⟨rfl, hf2⟩
         have hf := (Fr.refl [] w).drew.trans hf2 (by simp)
         have HF2 := Lib.hid hf
         have hi := hf.iv0 (X := X)
         have v0 := (H0.out.keep hi).cell
         have v1 := (H1.out.keep hi).cell
         have v3 := (H3.out.keep hi).cell
         obtain ⟨_, _, y2, _, y4, _, _⟩ := wk_cells (HW.out.keepI hi)
         rw [HAB.out] at y4
         rw [← HKEY.out] at y2
         clear hf hf2 hi)
      | (go_at_call 69; refine (HCH.out _ HF2.out).mono ?_; rintro e w4 ⟨rfl, hc4, hf4⟩
         have HC4 := Lib.hid hc4
         have HF4 := Lib.hid hf4
         have hi := HIV.out _ hf4
         have HI4 := Lib.hid hi
         have v0 := (H0.out.keep hi).cell
         have v1 := (H1.out.keep hi).cell
         have v3 := (H3.out.keep hi).cell
         obtain ⟨_, _, y2, _, y4, _, _⟩ := wk_cells (HW.out.keepI hi)
         rw [HAB.out] at y4
         rw [← HKEY.out] at y2
         clear hc4 hf4 hi)
      | (go_at_call 57; refine (HEN.out _ _ HC4.out HI4.out (by first | exact Fr.refl [] _ | exact (Fr.refl [] _).drew)).mono ?_; rintro e w9 ⟨hp9, hi9⟩
         have hi := HI4.out.trans hi9
         have v0 := (H0.out.keep hi).cell
         have v1 := (H1.out.keep hi).cell
         have v3 := (H3.out.keep hi).cell
         obtain ⟨_, _, y2, _, y4, _, _⟩ := wk_cells (HW.out.keepI hi)
         rw [HAB.out] at y4
         rw [← HKEY.out] at y2
         obtain ⟨V, rfl, HRR⟩ := (hp9.treed HF4.out).ret
         clear hp9 hi9 hi))
  all_goals go_wp2
  all_goals go_ret
  all_goals exact HRR.out
end Go.Proofs.Ytmhiolhgofackaa
namespace Go.Proofs.Ytmhiolhgofackaa
open Go.RowKit
set_option linter.unusedVariables false
set_option linter.unusedSimpArgs false

set_option maxHeartbeats 4000000 in
theorem step_mark {X : List Nat} {w : World} {A : TA} {a : CA} {t : Tr} {c : Cl} {N : Value} {kd : Kd} (h : Cf X w A a t c N) (hk : c.kd = kd) (o : Nat) (th fl : Th) (T F : Value) (p0 p1 p2 p3 : Nat) (h0 : Va X w p0 96 (pt A.tb)) (h1 : Va X w p1 115 (A.wp o))
    (h2 : Va X w p2 59 T) (h3 : Va X w p3 59 F) (hT : ThAt X w A a kd T th) (hF : ThAt X w A a kd F fl) (hl : t.ms.c.length ≤ 65536) (hn : t.ms.n ≤ 1000000000000) (ho1 : 1 ≤ o) (ho2 : o ≤ t.ws.length) (hno : NdOk t (t.wk o).old) :
    Calls Try.prog 93 #[pt p1, pt p0, pt p2, pt p3] w (Post X w A a kd N (t.cas (t.word (t.wk o).old) (t.wk o).seen (packW 3 o)) (c, some (if t.ms.casB (t.word (t.wk o).old) (t.wk o).seen || t.ms.at (t.word (t.wk o).old) == packW 3 o then .drop o th else .fin o fl))) := by
  obtain ⟨no1, no2, no3, no4, no5⟩ := hno
  obtain ⟨ob, hob1, hob2⟩ := h.tree.work ho1 ho2
  obtain ⟨ab, hab1, hab2⟩ := h.tree.node no1
  have HWD : Hid (∀ W, Fr [] w W → Calls Try.prog 73 #[pt ab] W fun e w' => e = .returned (.int .i64 (t.word (t.wk o).old)) ∧ W = w') := Lib.hid fun W hW => nd_word _ _ ab W (hW.keep hab2 (by simp)) no4 no5
  have HWW : Hid (∀ W, Fr [] w W → Calls Try.prog 74 #[pt ob, .int .i64 3] W fun e w' => e = .returned (.int .u64 (packW 3 o)) ∧ W = w') := Lib.hid fun W hW => wk_word A ob _ _ 3 W (hW.keep hob2 (by simp))
  obtain ⟨WD, hWD⟩ : ∃ x, x = t.word (t.wk o).old := ⟨_, rfl⟩
  obtain ⟨SEEN, hSEEN⟩ : ∃ x, x = (t.wk o).seen := ⟨_, rfl⟩
  obtain ⟨GO, hGO⟩ : ∃ x, x = packW 3 o := ⟨_, rfl⟩
  rw [← hWD] at HWD
  rw [← hGO] at HWW
  rw [← hWD, ← hSEEN, ← hGO]
  have HCS : Hid (∀ W, Fr [] w W → Calls Try.prog 72 #[pt A.mb, .int .i64 WD, .int .u64 SEEN, .int .u64 GO] W fun e w' => e = .returned (.tuple #[.int .u64 (t.ms.at WD), .bool (t.ms.casB WD SEEN)]) ∧ Cf X w' A a (t.cas WD SEEN GO) c N ∧ Fr A.foot w w') := Lib.hid fun W hW => ((h.tree.keep0 hW).casd hl hn _ _ _).mono fun e w' ⟨he, ht, hf⟩ =>
    ⟨he, (h.keep0 hW).treed0 hf ht, (hW.mono (by simp)).trans hf (fun x hx => Or.inl hx)⟩
  obtain ⟨WAS, hWAS⟩ : ∃ x, x = t.ms.at WD := ⟨_, rfl⟩
  obtain ⟨OK, hOK⟩ : ∃ x, x = t.ms.casB WD SEEN := ⟨_, rfl⟩
  obtain ⟨t1, ht1⟩ : ∃ t1, t1 = t.cas WD SEEN GO := ⟨_, rfl⟩
  rw [← hWAS, ← hOK, ← ht1] at HCS
  rw [← hWAS, ← hOK, ← ht1]
  have HDR : Hid (∀ W, Cf X W A a t1 c N → Iv X w W → Calls Try.prog 89 #[pt A.tb, pt ob, T] W (Post X W A a kd N t1 (c, some (.drop o th)))) := Lib.hid fun W hW hi => by
    have := bt_drop hW hk o th T (hT.keep hi)
    rw [hob1] at this
    exact this
  have HEN : Hid (∀ W, Cf X W A a t1 c N → Iv X w W → Calls Try.prog 81 #[pt A.tb, pt ob, F] W (Post X W A a kd N t1 (c, some (.fin o fl)))) := Lib.hid fun W hW hi => by
    have := bt_end hW hk o fl F (hF.keep hi)
    rw [hob1] at this
    exact this
  have HIV := Lib.hid (show ∀ W, Fr A.foot w W → Iv X w W from fun W hW => h.tree.iv hW)
  rw [hob1] at h1
  have H0 := Lib.hid h0
  have H1 := Lib.hid h1
  have H2 := Lib.hid h2
  have H3 := Lib.hid h3
  have HW := Lib.hid hob2
  have v0 := h0.cell
  have v1 := h1.cell
  obtain ⟨_, _, _, _, y4, _, y6⟩ := wk_cells hob2
  rw [hab1] at y4
  rw [← hSEEN] at y6
  have HSE := Lib.hid hSEEN
  have HAB := Lib.hid hab1
  obtain ⟨q0, _⟩ := tree_cells h.tree.toTreeB
  obtain ⟨f, x, y, hTf⟩ := Th.form hT
  obtain ⟨f', x', y', hFf⟩ := Th.form hF
  subst hTf
  subst hFf
  have hcase : (OK || WAS == GO) = true ∧ (OK = true ∨ (OK = false ∧ (WAS == GO) = true)) ∨ (OK || WAS == GO) = false ∧ OK = false ∧ (WAS == GO) = false := by
    cases OK <;> cases (WAS == GO) <;> simp
  clear h h0 h1 h2 h3 hT hF hl hn ho1 ho2 no1 no2 no3 no4 no5 hob1 hob2 hab1 hab2 ht1 hWD hSEEN hGO hWAS hOK
  rcases hcase with ⟨hc, hc2⟩ | ⟨hc, rfl, tq⟩
  · rw [hc, if_pos rfl]
    rcases hc2 with rfl | ⟨rfl, tq⟩
    all_goals
      clear hc
      go_enter Try.func93, Try.ntmps93
      go_wp2_with (go_at_call 74; refine (HWW.out _ (Fr.refl _ _)).mono ?_; rintro e w2 ⟨rfl, rfl⟩)
      go_region_held3 (fun W => W.cell? ⟨p0, 0, none⟩ = some (pt A.tb) ∧ W.cell? ⟨p1, 0, none⟩ = some (pt ob) ∧ W.cell? ⟨A.tb, 0, none⟩ = some (pt A.mb) ∧ W.cell? ⟨ob, 4, none⟩ = some (pt ab) ∧ W.cell? ⟨ob, 6, none⟩ = some (.int .u64 SEEN)) (go_keep)
        (first
          | (go_at_call 73; refine (HWD.out _ (Fr.refl [] w).drew).mono ?_; rintro e w2 ⟨rfl, rfl⟩)
          | (go_at_call 72; refine (HCS.out _ (Fr.refl [] w).drew).mono ?_; rintro e w4 ⟨rfl, hc4, hf4⟩
             have HC4 := Lib.hid hc4
             have HF4 := Lib.hid hf4
             have hi := HIV.out _ hf4
             have v0 := (H0.out.keep hi).cell
             have v1 := (H1.out.keep hi).cell
             have v2 := (H2.out.keep hi).cell
             obtain ⟨_, _, _, _, y4, _, y6⟩ := wk_cells (HW.out.keepI hi)
             rw [HAB.out] at y4
             rw [← HSE.out] at y6
             obtain ⟨q0, _⟩ := tree_cells hc4.tree.toTreeB
             clear hc4 hf4 hi))
      all_goals go_wp2_with (go_at_call 89; refine (HDR.out _ HC4.out (HIV.out _ HF4.out)).mono ?_; rintro e w9 hp9; obtain ⟨V, rfl, HRR⟩ := (hp9.treed HF4.out).ret; clear hp9)
      all_goals go_ret
      all_goals exact HRR.out
  · rw [hc, if_neg Bool.false_ne_true]
    clear hc
    go_enter Try.func93, Try.ntmps93
    go_wp2_with (go_at_call 74; refine (HWW.out _ (Fr.refl _ _)).mono ?_; rintro e w2 ⟨rfl, rfl⟩)
    go_region_held3 (fun W => W.cell? ⟨p0, 0, none⟩ = some (pt A.tb) ∧ W.cell? ⟨p1, 0, none⟩ = some (pt ob) ∧ W.cell? ⟨A.tb, 0, none⟩ = some (pt A.mb) ∧ W.cell? ⟨ob, 4, none⟩ = some (pt ab) ∧ W.cell? ⟨ob, 6, none⟩ = some (.int .u64 SEEN)) (go_keep)
      (first
        | (go_at_call 73; refine (HWD.out _ (Fr.refl [] w).drew).mono ?_; rintro e w2 ⟨rfl, rfl⟩)
        | (go_at_call 72; refine (HCS.out _ (Fr.refl [] w).drew).mono ?_; rintro e w4 ⟨rfl, hc4, hf4⟩
           have HC4 := Lib.hid hc4
           have HF4 := Lib.hid hf4
           have hi := HIV.out _ hf4
           have v0 := (H0.out.keep hi).cell
           have v1 := (H1.out.keep hi).cell
           have v3 := (H3.out.keep hi).cell
           obtain ⟨_, _, _, _, y4, _, y6⟩ := wk_cells (HW.out.keepI hi)
           rw [HAB.out] at y4
           rw [← HSE.out] at y6
           obtain ⟨q0, _⟩ := tree_cells hc4.tree.toTreeB
           clear hc4 hf4 hi))
    all_goals go_wp2_with (go_at_call 81; refine (HEN.out _ HC4.out (HIV.out _ HF4.out)).mono ?_; rintro e w9 hp9; obtain ⟨V, rfl, HRR⟩ := (hp9.treed HF4.out).ret; clear hp9)
    all_goals go_ret
    all_goals exact HRR.out
end Go.Proofs.Ytmhiolhgofackaa
