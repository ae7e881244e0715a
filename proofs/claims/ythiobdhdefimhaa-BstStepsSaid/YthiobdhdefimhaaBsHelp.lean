/- PACKAGE bst: help, met
PACKAGE bst: met -/
import Derived.Test.YthiobdhdefimhaaBsAnew
namespace Go.Proofs.Ythiobdhdefimhaa
open Go.RowKit
set_option linter.unusedVariables false
set_option linter.unusedSimpArgs false

/-- what a word says can be helped -/
def HlpOk (t : Tr) (wd : Int) : Prop := t.live (wd / 4).toNat = true → 1 ≤ (wd / 4).toNat ∧ (wd / 4).toNat ≤ t.ws.length ∧ (wd % 4 = 1 → ∃ p, (t.wk (wd / 4).toNat).next = some p)
def lookV (a : CA) : Value := .func (.func 84) #[pt a.wb] #[]
theorem zero_wk (w : World) : (zeroValue 108).run Try.prog w = .ok (.pointer none) w := by kernel_rfl
set_option maxHeartbeats 2000000 in
theorem bt_help {X : List Nat} {w : World} {A : TA} {a : CA} {t : Tr} {c : Cl} {N : Value} {kd : Kd} (h : Cf X w A a t c N) (hk : c.kd = kd) (wd : Int) (hu : IsU wd) (hh : HlpOk t wd) (hw : t.ws.length ≤ 1000000000) :
    Calls Try.prog 83 #[pt A.tb, .int .u64 wd, lookV a] w (Post X w A a kd N t (c.help t wd .look)) := by
  subst hk
  obtain ⟨u0, u1⟩ := hu
  have HI : Hid (∀ W, Calls Try.prog 94 #[.int .u64 wd] W fun e w' => e = .returned (.int .i64 (wd / 4)) ∧ Fr [] W w') := Lib.hid fun W => (wd_info wd W ⟨u0, u1⟩).mono fun e w' he => ⟨he.1, by rw [he.2]; exact Fr.refl _ _⟩
  have HST : Hid (∀ W, Calls Try.prog 81 #[.int .u64 wd] W fun e w' => e = .returned (.int .i64 (wd % 4)) ∧ W = w') := Lib.hid fun W => wd_state wd W ⟨u0, u1⟩
  obtain ⟨o, ho⟩ : ∃ o, o = (wd / 4).toNat := ⟨_, rfl⟩
  unfold HlpOk at hh
  have hg : worksG A t (wd / 4) = if t.live o = true then some (A.wp o) else none := by
    unfold worksG
    rw [← ho]
    by_cases hl : t.live o = true
    · have := (hh (by rw [← ho]; exact hl)).1
      rw [if_pos hl, if_pos ⟨by omega, hl⟩]
    · rw [if_neg hl, if_neg (fun e => hl e.2)]
  obtain ⟨I, hI⟩ : ∃ I, I = wd / 4 := ⟨_, rfl⟩
  have hlk : ∀ n : After [] w, (Instr.lookup 61 (.map (some A.mp)) (.int .i64 I) false).run Try.prog n.now = .ok (if t.live o = true then A.wp o else .pointer none) n.now := by
    intro n
    have := (h.tree.keep0 n.fr).map.look (t := 61) (E := 108) KI wk_map (zero_wk _) rfl (e := wd / 4) (WalkArith.wf_i64 (by omega))
    rw [hg] at this
    rw [hI]
    simp only [intD] at this
    rw [this]
    split <;> rfl
  have hhelp : c.help t wd .look = if t.live o = true then (if wd % 4 = 1 then (c, some (.take o ((t.wk o).next.getD 0) .look)) else if wd % 4 = 2 then (c, some (.mark o .look .look)) else (c, some (.drop o .look))) else (c, some .look) := by
    unfold Cl.help
    rw [← ho]
    rfl
  rw [hhelp]
  rw [← ho] at hh
  rw [← hI] at HI
  obtain ⟨S, hS⟩ : ∃ S, S = wd % 4 := ⟨_, rfl⟩
  rw [← hS] at HST hh ⊢
  obtain ⟨_, _, _, q3', _⟩ := tree_cells h.tree.toTreeB
  have q3 : ∀ n : After [] w, n.now.cell? ⟨A.tb, 3, none⟩ = some (.map (some A.mp)) := fun n => n.cell q3' (by simp)
  have H := Lib.hid h
  have HTH : Hid (∀ W, ThAt X W A a c.kd (lookV a) .look) := Lib.hid fun W => rfl
  unfold lookV at *
  cases hl : t.live o
  · rw [hl] at hlk
    simp only [Bool.false_eq_true, if_false] at hlk ⊢
    have HLK : Hid (∀ W, Fr [] w W → Calls Try.prog 84 #[pt a.wb] W (Post X w A a c.kd N t (c, some .look))) := Lib.hid fun W hW => (bt_look (H.out.keep0 hW) rfl).mono fun e w' hp => hp.after0 hW
    clear h hh hg hhelp hl ho hI hS u0 u1 q3'
    go_enter Try.func83, Try.ntmps83
    go_upto_region 1 with fail
    refine wp_region_after [] (by kernel_rfl) (by kernel_rfl) ?_
    repeat (go_big_quiet_step ((go_at_call 94; exact After.quiet (HI.out _))))
    refine wpQuiet_nil ?_
    rintro _ ⟨nq, rfl⟩
    go_wp2_with (go_at_call 84; refine (HLK.out _ nq.fr).mono ?_; rintro e w2 hp2; obtain ⟨V, rfl, HRR⟩ := hp2.ret; clear hp2)
    go_ret
    exact HRR.out
  · rw [hl] at hlk
    have h1 := hh hl
    simp only [if_true] at hlk ⊢
    have HW : Hid (∀ W, Fr [] w W → WkB W A (A.wb.getD (o - 1) 0) o (t.wk o)) := Lib.hid fun W hW => by
      obtain ⟨b, hb1, hb2⟩ := (H.out.tree.keep0 hW).work h1.1 h1.2.1
      have : A.wb.getD (o - 1) 0 = b := by unfold TA.wp at hb1; simpa using hb1
      rw [this]; exact hb2
    have HTK : Hid (∀ W n th, Fr [] w W → th = Th.look → Calls Try.prog 60 #[pt A.tb, A.wp o, A.np n, .func (.func 84) #[pt a.wb] #[]] W (Post X w A a c.kd N t (c, some (.take o n th)))) := Lib.hid fun W n th hW ht => (bt_take (H.out.keep0 hW) rfl o n th _ (by rw [ht]; exact HTH.out W)).mono fun e w' hp => hp.after0 hW
    have HMK : Hid (∀ W, Fr [] w W → Calls Try.prog 69 #[pt A.tb, A.wp o, .func (.func 84) #[pt a.wb] #[], .func (.func 84) #[pt a.wb] #[]] W (Post X w A a c.kd N t (c, some (.mark o .look .look)))) := Lib.hid fun W hW => (bt_mark (H.out.keep0 hW) rfl o .look .look _ _ (HTH.out W) (HTH.out W)).mono fun e w' hp => hp.after0 hW
    have HDR : Hid (∀ W, Fr [] w W → Calls Try.prog 89 #[pt A.tb, A.wp o, .func (.func 84) #[pt a.wb] #[]] W (Post X w A a c.kd N t (c, some (.drop o .look)))) := Lib.hid fun W hW => (bt_drop (H.out.keep0 hW) rfl o .look _ (HTH.out W)).mono fun e w' hp => hp.after0 hW
    have hnx := h1.2.2
    unfold TA.wp at *
    obtain ⟨ob, hob⟩ : ∃ b, b = A.wb.getD (o - 1) 0 := ⟨_, rfl⟩
    rw [← hob] at hlk HW HTK HMK HDR
    have HNX := Lib.hid hnx
    clear h hh hg hhelp hl ho hI hS u0 u1 q3' h1 hob hnx
    by_cases s1 : S = 1
    · have t1 : (S == 1) = true := by simpa using s1
      obtain ⟨p, hp⟩ := HNX.out s1
      rw [if_pos s1, hp, Option.getD_some]
      have HP := Lib.hid hp
      clear s1 hp
      go_enter Try.func83, Try.ntmps83
      go_upto_region 1 with fail
      refine wp_region_after [] (by kernel_rfl) (by kernel_rfl) ?_
      repeat (go_big_quiet_step ((go_at_call 94; exact After.quiet (HI.out _))))
      refine wpQuiet_nil ?_
      rintro _ ⟨nq, rfl⟩
      clear hlk q3
      obtain ⟨_, _, _, _, _, z5, _⟩ := wk_cells (HW.out _ nq.fr)
      rw [HP.out] at z5
      go_wp2_with (first | (go_at_call 81; refine (HST.out _).mono ?_; rintro e w3 ⟨rfl, rfl⟩) | (go_at_call 60; refine (HTK.out _ p _ nq.fr rfl).mono ?_; rintro e w2 hp2; obtain ⟨V, rfl, HRR⟩ := hp2.ret; clear hp2))
      go_ret
      exact HRR.out
    · have t1 : (S == 1) = false := by simpa using s1
      rw [if_neg s1]
      clear s1
      by_cases s2 : S = 2
      · have t2 : (S == 2) = true := by simpa using s2
        rw [if_pos s2]
        clear s2
        go_enter Try.func83, Try.ntmps83
        go_upto_region 1 with fail
        refine wp_region_after [] (by kernel_rfl) (by kernel_rfl) ?_
        repeat (go_big_quiet_step ((go_at_call 94; exact After.quiet (HI.out _))))
        refine wpQuiet_nil ?_
        rintro _ ⟨nq, rfl⟩
        clear hlk q3
        go_wp2_with (first | (go_at_call 81; refine (HST.out _).mono ?_; rintro e w3 ⟨rfl, rfl⟩) | (go_at_call 69; refine (HMK.out _ nq.fr).mono ?_; rintro e w2 hp2; obtain ⟨V, rfl, HRR⟩ := hp2.ret; clear hp2))
        go_ret
        exact HRR.out
      · have t2 : (S == 2) = false := by simpa using s2
        rw [if_neg s2]
        clear s2
        go_enter Try.func83, Try.ntmps83
        go_upto_region 1 with fail
        refine wp_region_after [] (by kernel_rfl) (by kernel_rfl) ?_
        repeat (go_big_quiet_step ((go_at_call 94; exact After.quiet (HI.out _))))
        refine wpQuiet_nil ?_
        rintro _ ⟨nq, rfl⟩
        clear hlk q3
        go_wp2_with (first | (go_at_call 81; refine (HST.out _).mono ?_; rintro e w3 ⟨rfl, rfl⟩) | (go_at_call 89; refine (HDR.out _ nq.fr).mono ?_; rintro e w2 hp2; obtain ⟨V, rfl, HRR⟩ := hp2.ret; clear hp2))
        go_ret
        exact HRR.out
end Go.Proofs.Ythiobdhdefimhaa
namespace Go.Proofs.Ythiobdhdefimhaa
open Go.RowKit
set_option linter.unusedVariables false
set_option linter.unusedSimpArgs false

theorem ownsRow_setAny {w : World} {base e n g size : Nat} {c : Nat} {xs : List Value} (ho : w.ownsRow base e size (.slice (some ⟨g, 0, none⟩) n c) n xs) (j : Nat) (u : Value) :
    (w.setCell ⟨g, j, none⟩ u).ownsRow base e size (.slice (some ⟨g, 0, none⟩) n c) n (xs.set j u) := by
  obtain ⟨h1, h2⟩ := ho
  refine ⟨by simpa using h1, ?_⟩
  rcases h2 with ⟨h, _⟩ | ⟨g', cap, cur, hv, hg, hh, h5, h6, h7, h8⟩
  · cases h
  · simp only [Value.slice.injEq, Option.some.injEq, Addr.mk.injEq, and_true, true_and] at hv
    obtain ⟨rfl, rfl⟩ := hv
    refine Or.inr ⟨g, c, cur.setIfInBounds j u, rfl, hg, set_block hh j u, h5, h6, by simpa using h7, ?_⟩
    rw [← h8, Array.toList_setIfInBounds, List.take_set]
theorem flat_saw (A : TA) : ∀ (l : List Ps) (k : Nat) (p : Ps) (b : Bool) (s : Int), l[k]? = some p → (l.set k ⟨p.node, b, s⟩).flatMap (psV A) = ((l.flatMap (psV A)).set (k * 3 + 1) (.bool b)).set (k * 3 + 2) (.int .u64 s)
  | q :: l, 0, p, b, s, h => by
    simp at h; subst h
    rw [List.set_cons_zero, List.flatMap_cons, List.flatMap_cons]
    simp [psV]
  | q :: l, k + 1, p, b, s, h => by
    rw [List.set_cons_succ, List.flatMap_cons, List.flatMap_cons, flat_saw A l k p b s (by simpa using h)]
    rw [List.set_append_right _ _ (by simp [psV]; omega), List.set_append_right _ _ (by simp [psV]; omega)]
    have h1 : (k + 1) * 3 + 1 - (psV A q).length = k * 3 + 1 := by simp [psV]; omega
    have h2 : (k + 1) * 3 + 2 - (psV A q).length = k * 3 + 2 := by simp [psV]; omega
    rw [h1, h2]
theorem Cl.up_get (c : Cl) (n : Nat) (h : n < c.path.length) : c.path[c.path.length - 1 - n]? = some (c.up n) := by
  unfold Cl.up
  rw [List.getD_eq_getElem?_getD, List.getElem?_eq_getElem (by omega)]; rfl
theorem WayAt.sawd {w : World} {A : TA} {a : CA} {key : ByteArray} {lv : Value} {c : Cl} {g cap : Nat} (h : WayAt w A a key lv c.path) (hs : a.pv = .slice (some ⟨g, 0, none⟩) c.path.length cap) (hp : c.path ≠ []) (was : Int) :
    Passed w A a key lv (c.saw was).path ((w.setCell ⟨g, (c.path.length - 1) * 3 + 1, none⟩ (.bool true)).setCell ⟨g, (c.path.length - 1) * 3 + 2, none⟩ (.int .u64 was)) := by
  have hlen : 0 < c.path.length := List.length_pos_iff.2 hp
  have hne := h.ne
  rw [hs] at hne
  have hg : g ≠ a.wb := by simpa [Value.ownBlock] using hne
  have hr := h.row
  rw [hs] at hr
  refine ⟨a.pv, ⟨set_other (set_other h.blk hg.symm _ _) hg.symm _ _, ?_⟩, ?_, fun k hk => Or.inl hk⟩
  · have := ownsRow_setAny (ownsRow_setAny hr ((c.path.length - 1) * 3 + 1) (.bool true)) ((c.path.length - 1) * 3 + 2) (.int .u64 was)
    rw [← flat_saw A c.path (c.path.length - 1) (c.up 0) true was (by have := c.up_get 0 hlen; simpa using this)] at this
    rw [hs]
    simpa [Cl.saw] using this
  · have hin : g ∈ WayAt.foot a := by rw [WayAt.foot, hs]; simp [Value.ownBlock]
    exact ((Fr.refl _ w).setCell (Or.inl hin) _).setCell (Or.inl hin) _
set_option maxHeartbeats 4000000 in
theorem bt_met {X : List Nat} {w : World} {A : TA} {a : CA} {t : Tr} {c : Cl} {N : Value} {kd : Kd} (h : Cf X w A a t c N) (hk : c.kd = kd) (hkd : kd = .ins ∨ kd = .rem) (wd : Int) (hu : IsU wd) (hh : HlpOk t wd) (hw : t.ws.length ≤ 1000000000) (hp : c.path ≠ []) (hl : c.path.length ≤ 1000000000) :
    Calls Try.prog 58 #[pt a.wb, .int .u64 wd] w (Post X w A a kd N t (c.met t wd)) := by
  subst hk
  have HST : Hid (∀ W, Calls Try.prog 81 #[.int .u64 wd] W fun e w' => e = .returned (.int .i64 (wd % 4)) ∧ W = w') := Lib.hid fun W => wd_state wd W hu
  have hway := h.call.way hkd
  obtain ⟨g, cap, hs, hglt, hgw, hcell, hfree⟩ := hway.slice hp
  have hlen : 0 < c.path.length := List.length_pos_iff.2 hp
  obtain ⟨d0, d1, d2, d3, df⟩ := way_cells hway
  unfold Cl.met
  by_cases s0 : wd % 4 = 0
  · rw [if_pos s0]
    rw [s0] at HST
    have hpu := c.up_get 0 hlen
    simp only [Nat.sub_zero] at hpu
    obtain ⟨e0, e1, e2⟩ := hcell _ _ hpu
    have f1 := hfree ((c.path.length - 1) * 3 + 1)
    have f2 := hfree ((c.path.length - 1) * 3 + 2)
    have HUP : Hid (Calls Try.prog 56 #[pt a.wb, .int .i64 0] w fun e w' => e = .returned (.pointer (some ⟨g, (c.path.length - 1) * 3, none⟩)) ∧ Fr [] w w') := Lib.hid (by have := way_up w A a c.key _ c.path 0 g cap hway hlen hl hs; simpa using this)
    have hup2 : ∀ W, Fr [] w W → Calls Try.prog 56 #[pt a.wb, .int .i64 0] W fun e w' => e = .returned (.pointer (some ⟨g, (c.path.length - 1) * 3, none⟩)) ∧ Fr [] W w' := fun W hW => by have := way_up W A a c.key _ c.path 0 g cap (hway.keep0 hW) hlen hl hs; simpa using this
    have HUP2 := Lib.hid hup2
    have HDN : Hid (∀ W, Fr [] w W → Calls Try.prog 82 #[pt a.wb] ((W.setCell ⟨g, (c.path.length - 1) * 3 + 1, none⟩ (.bool true)).setCell ⟨g, (c.path.length - 1) * 3 + 2, none⟩ (.int .u64 wd)) (Post X w A a c.kd N t (c.saw wd, some .down))) := Lib.hid (by
      intro W hW
      obtain ⟨pv, k1, _, k2, k3⟩ := (h.keep0 hW).passed hkd rfl ((hway.keep0 hW).sawd hs hp wd)
      have hsz := hW.size
      exact (bt_down k1 (kd := c.kd) rfl).mono fun e w' hq => hq.trans (Ext.refl A) ⟨pv, rfl⟩ ((hW.mono (by simp) : Fr (Both A a c.kd) w W).trans k2 (fun x hx => Or.inl hx)) (fun x hx => (k3 x hx).imp id (fun h => by omega)))
    have HFR : Hid (∀ o, w.frozen? ⟨g, o, none⟩ = false) := Lib.hid hfree
    have HE1 : Hid (∀ W, Fr [] w W → W.cell? ⟨g, (c.path.length - 1) * 3 + 1, none⟩ = some (.bool (c.up 0).asked) ∧ W.cell? ⟨g, (c.path.length - 1) * 3 + 2, none⟩ = some (.int .u64 (c.up 0).seen) ∧ W.frozen? ⟨g, (c.path.length - 1) * 3 + 1, none⟩ = false ∧ W.frozen? ⟨g, (c.path.length - 1) * 3 + 2, none⟩ = false) := Lib.hid (by
      intro W hW
      obtain ⟨g', cap', hs', _, _, hcell', hfree'⟩ := (hway.keep0 hW).slice hp
      rw [hs] at hs'; cases hs'
      obtain ⟨_, x1, x2⟩ := hcell' _ _ hpu
      exact ⟨x1, x2, hfree' _, hfree' _⟩)
    clear h hu hh hway hs hcell hfree hpu hup2 e0 e1 e2 f1 f2 d0 d1 d2 d3 df hkd hp
    go_enter Try.func58, Try.ntmps58
    go_wp2_with (first | (go_at_call 81; refine (HST.out _).mono ?_; rintro e w3 ⟨rfl, rfl⟩) | (go_at_call 56; refine HUP.out.mono ?_; rintro e w3 ⟨rfl, hf3⟩; refine go_stop ?_))
    unfold Stop
    have HF3 := Lib.hid hf3
    have HUP3 := Lib.hid (HUP2.out _ hf3)
    clear hf3
    go_wp2_with (go_at_call 56; refine HUP3.out.mono ?_; rintro e w4 ⟨rfl, hf4⟩; refine go_stop ?_)
    unfold Stop
    have hf4' := HF3.out.trans (T := []) hf4 (by simp)
    have HF4 := Lib.hid hf4'
    obtain ⟨x1, x2, x3, x4⟩ := HE1.out _ hf4'
    clear hf4 hf4'
    go_wp2_with (go_at_call 82; refine (HDN.out _ HF4.out).mono ?_; rintro e w2 hp2; obtain ⟨V, rfl, HRR⟩ := hp2.ret; clear hp2)
    go_ret
    exact HRR.out
  · rw [if_neg s0]
    by_cases s3 : wd % 4 = 3
    · rw [if_pos s3]
      rw [s3] at HST
      have hcap : c.path.length ≤ cap := by
        rcases hway.row.2 with ⟨hv, _⟩ | ⟨g', c', cur, hv, _, _, h5, _⟩
        · rw [hs] at hv; cases hv
        · rw [hs] at hv; cases hv; omega
      obtain ⟨w1, hw1⟩ : ∃ w1, w1 = (w.setCell ⟨a.wb, 2, none⟩ (.slice (some ⟨g, 0, none⟩) (c.path.length - 1) cap)).drew := ⟨_, rfl⟩
      obtain ⟨pv, hc, hf, hf2, hf3⟩ := h.passed hkd rfl (hway.cutd hs (c.path.length - 1) (by omega))
      have hf2' : Fr (Both A a c.kd) w w1 := by rw [hw1]; exact hf2.drew
      have hc' := hc.keep0 (Fr.refl [] _).drew
      rw [← hw1] at hc'
      have hlk := bt_help hc' (kd := c.kd) rfl wd hu hh hw
      have HLK : Hid (Calls Try.prog 83 #[pt A.tb, .int .u64 wd, .func (.func 84) #[pt a.wb] #[]] w1 (Post X w A a c.kd N t ((c.cut 1).help t wd .look))) := Lib.hid (hlk.mono fun e w' hp => hp.trans (Ext.refl A) ⟨pv, rfl⟩ hf2' hf3)
      have hb1 : w1.heap[a.wb]? = _ := hc'.call.way hkd |>.blk
      have k0' := cell_block hb1 0
      simp at k0'
      rw [hs] at d2
      have HW1 := Lib.hid hw1
      have e1 : IntKind.i64.wrap ((c.path.length : Int) - 1) = ((c.path.length - 1 : Nat) : Int) := by rw [IntWalk.i64_in _ (by omega)]; omega
      have kk : c.path.length ≤ cap + 1 := by omega
      have k0 : (0 : Int) ≤ ((c.path.length - 1 : Nat) : Int) := by omega
      have k1 : ((c.path.length - 1 : Nat) : Int) ≤ cap := by omega
      clear h hu hh hway hs hcell hfree hkd hp hc hc' hf hf2 hf2' hf3 hlk hb1 hw1 s0 s3
      go_enter Try.func58, Try.ntmps58
      go_wp2_with (go_at_call 81; refine (HST.out _).mono ?_; rintro e w3 ⟨rfl, rfl⟩)
      go_region
      go_upto_region 7 with fail
      rw [← HW1.out]
      go_wp2_with (go_at_call 83; refine HLK.out.mono ?_; rintro e w2 hp2; obtain ⟨V, rfl, HRR⟩ := hp2.ret; clear hp2)
      go_ret
      exact HRR.out
    · rw [if_neg s3]
      have t0 : (wd % 4 == 0) = false := by simpa using s0
      have t3 : (wd % 4 == 3) = false := by simpa using s3
      have hlk := bt_help h (kd := c.kd) rfl wd hu hh hw
      have HLK : Hid (Calls Try.prog 83 #[pt A.tb, .int .u64 wd, .func (.func 84) #[pt a.wb] #[]] w (Post X w A a c.kd N t (c.help t wd .look))) := Lib.hid hlk
      obtain ⟨S, hS⟩ : ∃ S, S = wd % 4 := ⟨_, rfl⟩
      rw [← hS] at HST t0 t3
      clear h hu hh hway hs hcell hfree hkd hp hlk s0 s3 hS
      go_enter Try.func58, Try.ntmps58
      go_wp2_with (first | (go_at_call 81; refine (HST.out _).mono ?_; rintro e w3 ⟨rfl, rfl⟩) | (go_at_call 83; refine HLK.out.mono ?_; rintro e w2 hp2; obtain ⟨V, rfl, HRR⟩ := hp2.ret; clear hp2))
      go_ret
      exact HRR.out
end Go.Proofs.Ythiobdhdefimhaa
