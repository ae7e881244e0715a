/- PACKAGE bst: a Delete's work is begun -/
import Derived.Test.YtmhiolhgofackaaGreatBsGro
namespace Go.Proofs.YtmhiolhgofackaaGreat
open Go.RowKit
set_option linter.unusedVariables false
set_option linter.unusedSimpArgs false

structure LoseOk (t : Tr) (c : Cl) (l : Nat) : Prop where
  l : l < t.ns.length
  ne : 2 ≤ c.path.length
  len : c.path.length ≤ 1000000000
  no : NdOk t (c.up 1).node
  old : (c.up 0).node < t.ns.length
  cells : t.ms.c.length ≤ 65536
  asked : t.ms.n ≤ 1000000000000
  live : ∀ i, t.live i = true → i ≤ t.ws.length
  ws : t.ws.length ≤ 900000000
  was : IsU (t.ms.at (t.word (c.up 1).node))
  hlp : HlpOk t (t.ms.at (t.word (c.up 1).node))
  path : ∀ p ∈ c.path, p.node < t.ns.length
  over : c.over = none
set_option maxRecDepth 100000 in
set_option maxHeartbeats 8000000 in
theorem step_lose {X : List Nat} {w : World} {A : TA} {a : CA} {t : Tr} {c : Cl} {N : Value} (h : Cf X w A a t c N) (hk : c.kd = .rem) (l bl : Nat) (hbl : Va X w bl 74 (A.np l)) (g : LoseOk t c l) :
    Calls Tryz.prog 79 #[pt a.b4, pt a.b1, pt a.b0, pt a.b3, pt bl] w (Post X w A a .rem N (stepP t c (.lose l)).1 (stepP t c (.lose l)).2) := by
  obtain ⟨hl, hlen2, hlen, ⟨no1, no2, no3, no4, no5⟩, hold, hcl, has, hlive, hws, hwas, hhlp, hpath, hover⟩ := g
  have hne : c.path ≠ [] := by intro e; rw [e] at hlen2; simp at hlen2
  have hway := h.call.way (Or.inr hk)
  obtain ⟨gb, cap, hs, hglt, hgw, hcell, hfree⟩ := hway.slice hne
  have hpu := c.up_get 0 (by omega)
  simp only [Nat.sub_zero] at hpu
  have hpu1 := c.up_get 1 (by omega)
  obtain ⟨e0, ey, e2⟩ := hcell _ _ hpu
  obtain ⟨f0, fy, f2⟩ := hcell _ _ hpu1
  obtain ⟨ab, hab1, hab2⟩ := h.tree.node no1
  obtain ⟨pb, hpb1, hpb2⟩ := h.tree.node hold
  have HUP0 : Hid (∀ W, Fr [] w W → Calls Tryz.prog 66 #[pt a.wb, .int .i64 0] W fun e w' => e = .returned (.pointer (some ⟨gb, (c.path.length - 1) * 3, none⟩)) ∧ Fr [] W w') := Lib.hid fun W hW => by have := way_up W A a c.key _ c.path 0 gb cap (hway.keep0 hW) (by omega) hlen hs; simpa using this
  have HUP1 : Hid (∀ W, Fr [] w W → Calls Tryz.prog 66 #[pt a.wb, .int .i64 1] W fun e w' => e = .returned (.pointer (some ⟨gb, (c.path.length - 1 - 1) * 3, none⟩)) ∧ Fr [] W w') := Lib.hid fun W hW => by have := way_up W A a c.key _ c.path 1 gb cap (hway.keep0 hW) (by omega) hlen hs; simpa using this
  obtain ⟨O, hO⟩ : ∃ O, O = (c.path.length - 1) * 3 := ⟨_, rfl⟩
  obtain ⟨O1, hO1⟩ : ∃ O, O = (c.path.length - 1 - 1) * 3 := ⟨_, rfl⟩
  rw [← hO] at HUP0 e0 e2
  rw [← hO1] at HUP1 f0 f2
  obtain ⟨P, hP⟩ : ∃ P, P = (c.up 1).node := ⟨_, rfl⟩
  obtain ⟨Q, hQ⟩ : ∃ P, P = (c.up 0).node := ⟨_, rfl⟩
  obtain ⟨SEEN, hSEEN⟩ : ∃ P, P = (c.up 1).seen := ⟨_, rfl⟩
  obtain ⟨SAW, hSAW⟩ : ∃ P, P = (c.up 0).seen := ⟨_, rfl⟩
  rw [← hP] at no1 no2 no3 no4 no5 hab1 hab2 hwas hhlp f0
  rw [← hQ] at hold hpb1 e0
  rw [← hSEEN] at f2
  rw [← hSAW] at e2
  rw [hab1] at f0
  rw [hpb1] at e0
  obtain ⟨o, ho⟩ : ∃ o : Wk, o = ⟨2, c.key, P, Q, none, SAW⟩ := ⟨_, rfl⟩
  have hoat : o.at_ = P := by rw [ho]
  have hwkv : ∀ i : Nat, wkV A i o = #[.int .i64 i, .int .i64 2, .string c.key, pt ab, pt pb, .pointer none, .int .u64 SAW] := fun i => by rw [ho]; unfold wkV; simp only [hpb1, hab1]
  obtain ⟨OK, hOK⟩ : ∃ b, b = t.ms.casB (t.word P) SEEN := ⟨_, rfl⟩
  obtain ⟨WAS, hWAS⟩ : ∃ b, b = t.ms.at (t.word P) := ⟨_, rfl⟩
  have HST : Hid (∀ W ob, Fr [] w W → w.heap.size ≤ ob → W.heap[ob]? = some (.cells #[.int .i64 0, .int .i64 2, .string c.key, pt ab, pt pb, .pointer none, .int .u64 SAW] 137 (0, 0)) → Calls Tryz.prog 67 #[pt A.tb, pt ob, .int .u64 SEEN] W fun e w' =>
      e = .returned (.tuple #[.int .u64 WAS, .bool OK]) ∧ w'.heap[ob]? = some (.cells (wkV A (t.ws.length + 1) o) 137 (0, 0)) ∧ TreeAt w' (if OK then A.work ob else A) (t.begin o SEEN) ∧ Fr (ob :: A.foot) W w') := Lib.hid fun W ob hW hob hb => by
    have hbw : ob ∉ A.wb := fun hm => by
      obtain ⟨i, hi, rfl⟩ := List.getElem_of_mem hm
      have := lt_of_block (h.tree.wks i _ (List.getElem?_eq_getElem hi))
      omega
    have := nd_start A t o ob 0 SEEN W (h.tree.keep0 hW) hcl has (by rw [hwkv]; exact hb) (by rw [hoat]; exact no1) (by rw [hoat]; exact ⟨no4, no5⟩) hlive (by omega) hbw
    unfold Started at this
    rw [hoat, ← hOK, ← hWAS] at this
    exact this
  have HC := Lib.hid h
  have HVB := Lib.hid hbl
  have HV0 := Lib.hid (h.call.ctx.vx (by rw [hk]; decide))
  have HV1 := Lib.hid h.call.ctx.vk
  have HV3 := Lib.hid h.call.ctx.vt
  have HV4 := Lib.hid (h.call.ctx.vw (Or.inr hk))
  have v1 := HV1.out.cell
  have v4 := HV4.out.cell
  have v0 := HV0.out.cell
  have HE0 := Lib.hid e0
  have HE2 := Lib.hid e2
  have HG0 := Lib.hid f0
  have HG2 := Lib.hid f2
  have HGC : Hid (∀ W, Fr A.foot w W → W.cell? ⟨gb, O1 + 2, none⟩ = some (.int .u64 SEEN)) := Lib.hid fun W hW => hW.cell f2 (h.call.sep h.tree gb (CA.way_in (Or.inr hk) _ (by rw [WayAt.foot, hs]; simp [Value.ownBlock])))
  have hstep : stepP t c (.lose l) = (t.begin o SEEN, if OK = true then (c, some (.mark (t.ws.length + 1) (.told l) .fail)) else (c.cut 1).met t WAS) := by
    show (t.begin ⟨2, c.key, (c.up 1).node, (c.up 0).node, none, (c.up 0).seen⟩ (c.up 1).seen, if t.ms.casB (t.word (c.up 1).node) (c.up 1).seen = true then _ else _) = _
    rw [← hP, ← hSEEN, ← hOK, ho, hWAS, hQ, hSAW]
  rw [hstep]
  obtain ⟨d0, d1, d2, d3, df⟩ := way_cells hway
  rw [hs] at d2
  have HWB : Hid (∀ W, Fr A.foot w W → W.cell? ⟨a.wb, 2, none⟩ = some (.slice (some ⟨gb, 0, none⟩) c.path.length cap) ∧ W.frozen? ⟨a.wb, 2, none⟩ = false) := Lib.hid fun W hW => by
    have hb := hW.keep hway.blk (h.call.sep h.tree _ (CA.way_in (Or.inr hk) _ (by simp [WayAt.foot])))
    rw [hs] at hb
    exact ⟨by simpa using cell_block hb 2, free_block hb 2⟩
  have HWN : Hid (a.b4 ≠ a.wb) := Lib.hid fun e => by
    have h1 := HV4.out.blk
    rw [e, hway.blk] at h1; simp only [Option.some.injEq, Obj.cells.injEq] at h1; exact absurd h1.2.1 (by decide)
  cases OK
  · rw [if_neg Bool.false_ne_true]
    have hbeg := begin_no (t := t) (o := o) (s := SEEN) (by rw [hoat]; exact hOK.symm)
    rw [hbeg] at HST ⊢
    simp only [Bool.false_eq_true, if_false] at HST
    have hcap : c.path.length ≤ cap := by
      rcases hway.row.2 with ⟨hv, _⟩ | ⟨g', c', cur, hv, _, _, h5, _⟩
      · rw [hs] at hv; cases hv
      · rw [hs] at hv; cases hv; omega
    have e1 : IntKind.i64.wrap ((c.path.length : Int) - 1) = ((c.path.length - 1 : Nat) : Int) := by rw [IntWalk.i64_in _ (by omega)]; omega
    have kk : c.path.length ≤ cap + 1 := by omega
    have k0 : (0 : Int) ≤ ((c.path.length - 1 : Nat) : Int) := by omega
    have k1 : ((c.path.length - 1 : Nat) : Int) ≤ cap := by omega
    have HMT : Hid (∀ W, Fr A.foot w W → TreeAt W A (t.cas (t.word o.at_) SEEN (packW o.state (t.ws.length + 1))) → Calls Tryz.prog 68 #[pt a.wb, .int .u64 WAS] ((W.setCell ⟨a.wb, 2, none⟩ (.slice (some ⟨gb, 0, none⟩) (c.path.length - 1) cap)).drew) (Post X w A a .rem N (t.cas (t.word o.at_) SEEN (packW o.state (t.ws.length + 1))) ((c.cut 1).met t WAS))) := Lib.hid fun W hf ht => by
      have hcf := h.treed0 hf ht
      have hw5 := hcf.call.way (Or.inr hk)
      obtain ⟨pv, k1, _, k2, k3⟩ := hcf.passed (Or.inr hk) rfl (hw5.cutd hs (c.path.length - 1) (by omega))
      have k4 := k1.keep0 (Fr.refl [] _).drew
      have hnp : (c.cut 1).path ≠ [] := by
        intro e
        have : (c.cut 1).path.length = c.path.length - 1 := by simp [Cl.cut]
        rw [e] at this; simp at this; omega
      have hnl : (c.cut 1).path.length ≤ 1000000000 := by simp [Cl.cut]; omega
      have := bt_met (c := c.cut 1) k4 hk (Or.inr rfl) WAS (by rw [hWAS]; exact hwas) (by rw [hWAS]; exact hhlp) (by show t.ws.length ≤ _; omega) hnp hnl
      rw [hk] at k2 k3
      exact this.mono fun e w' hp => Post.treed (hp.trans (Ext.refl A) ⟨pv, rfl⟩ k2.drew k3) hf
    generalize t.cas (t.word o.at_) SEEN (packW o.state (t.ws.length + 1)) = t2 at *
    clear hbeg hcap
    
    clear h hbl hway hs hglt hgw hcell hfree hpu hpu1 hpb1 hab1 hab2 hl hne hlen hlen2 no1 no2 no3 no4 no5 hold hcl has hlive hws hwas hhlp hpath hover hO hO1 hP hQ hSEEN hSAW hstep hwkv hoat ho hOK hWAS d2 df d0 d1 d3 ey fy hpb2
    go_enter Tryz.func79, Tryz.ntmps79
    go_wp2_with fail
    have v4a : ∀ n : After [] w, n.now.cell? ⟨a.b4, 0, none⟩ = some (pt a.wb) := fun n => n.cell v4 (by simp)
    refine wp_region_after [] (by kernel_rfl) (by kernel_rfl) ?_
    repeat (go_big_quiet_step (first | (go_at_call 66; with_reducible exact After.quiet (HUP1.out _ (After.fr _))) | (go_at_call 66; with_reducible exact After.quiet (HUP0.out _ (After.fr _)))))
    refine wpQuiet_nil ?_
    rintro _ ⟨nq, rfl⟩
    have HFQ := Lib.hid nq.fr
    generalize nq.now = w1 at *
    clear nq v4a v0 v1 v4 e0 e2 f0 f2
    have v1 := (HV1.out.keep (HFQ.out.iv0 (X := X))).cell
    have e0 := HFQ.out.cell HE0.out (by simp)
    have e2 := HFQ.out.cell HE2.out (by simp)
    have f0 := HFQ.out.cell HG0.out (by simp)
    have hfo : Fr [] w ((w1.alloc (.cells #[.int .i64 0, .int .i64 2, .string c.key, pt ab, pt pb, .pointer none, .int .u64 SAW] 137)).drew) := (HFQ.out.alloc _).drew
    have hobk : ((w1.alloc (.cells #[.int .i64 0, .int .i64 2, .string c.key, pt ab, pt pb, .pointer none, .int .u64 SAW] 137)).drew).heap[w1.heap.size]? = _ := (Fr.refl [] _).drew.keep (new_block w1 (.cells #[.int .i64 0, .int .i64 2, .string c.key, pt ab, pt pb, .pointer none, .int .u64 SAW] 137)) (by simp)
    obtain ⟨w2, hw2⟩ : ∃ w2, w2 = (w1.alloc (.cells #[.int .i64 0, .int .i64 2, .string c.key, pt ab, pt pb, .pointer none, .int .u64 SAW] 137)).drew := ⟨_, rfl⟩
    rw [← hw2] at hfo hobk
    obtain ⟨ob, hob⟩ : ∃ ob, ob = w1.heap.size := ⟨_, rfl⟩
    rw [← hob] at hobk
    have HOB := Lib.hid hobk
    have HFO := Lib.hid hfo
    have HSZ : Hid (w.heap.size ≤ ob) := Lib.hid (by rw [hob]; exact HFQ.out.size)
    have HOE := Lib.hid hob
    have HW2 := Lib.hid hw2
    clear hob hw2 hfo hobk
    go_wp2_with fail
    go_region
    clear v1 e0 e2 f0
    have v0 := (HV0.out.keep (HFO.out.iv0 (X := X))).cell
    have f2 := HFO.out.cell HG2.out (by simp)
    go_upto_region 3 with fail
    rw [← HW2.out, ← HOE.out]
    go_region_held3 (fun W => W.cell? ⟨a.b0, 0, none⟩ = some (pt A.tb) ∧ W.cell? ⟨gb, O1 + 2, none⟩ = some (.int .u64 SEEN)) (go_keep)
      ((go_at_call 67; refine (HST.out _ _ HFO.out.drew HSZ.out ((Fr.refl [] w2).drew.keep HOB.out (by simp))).mono ?_; rintro e w5 ⟨rfl, hb5, ht5, hf5⟩
        have HB5 := Lib.hid hb5
        have HT5 := Lib.hid ht5
        have hf50 := HFO.out.drew.mono (T := A.foot) (by simp) |>.trans hf5 (by intro x hx; rcases List.mem_cons.1 hx with rfl | hx; exact Or.inr HSZ.out; exact Or.inl hx)
        have HF5 := Lib.hid hf50
        have v0 := (HV0.out.keep (HC.out.tree.iv (X := X) hf50)).cell
        have f2 := HGC.out _ hf50
        clear hb5 ht5 hf5 hf50))
    clear v0 f2
    have v4 := (HV4.out.keep (HC.out.tree.iv (X := X) HF5.out)).cell
    obtain ⟨d2, df⟩ := HWB.out _ HF5.out
    have HM := Lib.hid (HMT.out _ HF5.out HT5.out)
    have hk4 : ((w5.setCell ⟨a.wb, 2, none⟩ (.slice (some ⟨gb, 0, none⟩) (c.path.length - 1) cap)).drew).cell? ⟨a.b4, 0, none⟩ = some (pt a.wb) := by
      have h1 := (HV4.out.keep (HC.out.tree.iv (X := X) HF5.out)).blk
      have hne : a.b4 ≠ a.wb := fun e => HWN.out e
      simpa using cell_block (set_other h1 hne 2 _) 0
    obtain ⟨w7, hw7⟩ : ∃ w7, w7 = (w5.setCell ⟨a.wb, 2, none⟩ (.slice (some ⟨gb, 0, none⟩) (c.path.length - 1) cap)).drew := ⟨_, rfl⟩
    rw [← hw7] at HM hk4
    have HW7 := Lib.hid hw7
    clear hw7
    go_wp2_with fail
    go_region
    go_upto_region 6 with fail
    rw [← HW7.out]
    clear v4 d2 df
    go_wp2_with (go_at_call 68; refine HM.out.mono ?_; rintro e w9 hp9; obtain ⟨V, rfl, HRR⟩ := hp9.ret; clear hp9)
    go_ret
    exact HRR.out
  · rw [if_pos rfl]
    simp only [if_true] at HST
    have HMK : Hid (∀ W ob, w.heap.size ≤ ob → Fr A.foot w W → TreeAt W (A.work ob) (t.begin o SEEN) → Calls Tryz.prog 81 #[pt A.tb, pt ob, .func (.func 80) #[] #[pt a.b3, pt a.b1, pt bl], .func (.func 82) #[] #[pt a.b4]] W (Post X w A a .rem N (t.begin o SEEN) (c, some (.mark (t.ws.length + 1) (.told l) .fail)))) := Lib.hid fun W ob hob hf ht => by
      have hext := A.work_ext ob
      have hclin : ClIn t.ns.length c := ⟨hpath, fun p hp => by rw [hover] at hp; cases hp⟩
      have hcf := h.treed hf ht hext hclin
      have hwp : (A.work ob).wp (t.ws.length + 1) = pt ob := by
        unfold TA.wp TA.work; have := h.tree.wlen; simp [List.getD_eq_getElem?_getD, ← this]
      have := bt_mark hcf hk (t.ws.length + 1) (.told l) .fail (fn 80 [a.b3, a.b1, bl]) (fn 82 [a.b4]) ⟨bl, rfl, hbl.keep (h.tree.iv hf)⟩ rfl
      rw [hwp] at this
      exact this.mono fun e w' hp => hp.trans hext ⟨a.pv, rfl⟩ (hf.mono (fun k hk => Or.inl (List.mem_append_left _ hk))) (fun x hx => Or.inl hx)
    generalize t.begin o SEEN = t2 at *
    
    clear h hbl hway hs hglt hgw hcell hfree hpu hpu1 hpb1 hab1 hab2 hl hne hlen hlen2 no1 no2 no3 no4 no5 hold hcl has hlive hws hwas hhlp hpath hover hO hO1 hP hQ hSEEN hSAW hstep hwkv hoat ho hOK hWAS d2 df d0 d1 d3 ey fy hpb2
    go_enter Tryz.func79, Tryz.ntmps79
    go_wp2_with fail
    have v4a : ∀ n : After [] w, n.now.cell? ⟨a.b4, 0, none⟩ = some (pt a.wb) := fun n => n.cell v4 (by simp)
    refine wp_region_after [] (by kernel_rfl) (by kernel_rfl) ?_
    repeat (go_big_quiet_step (first | (go_at_call 66; with_reducible exact After.quiet (HUP1.out _ (After.fr _))) | (go_at_call 66; with_reducible exact After.quiet (HUP0.out _ (After.fr _)))))
    refine wpQuiet_nil ?_
    rintro _ ⟨nq, rfl⟩
    have HFQ := Lib.hid nq.fr
    generalize nq.now = w1 at *
    clear nq v4a v0 v1 v4 e0 e2 f0 f2
    have v1 := (HV1.out.keep (HFQ.out.iv0 (X := X))).cell
    have e0 := HFQ.out.cell HE0.out (by simp)
    have e2 := HFQ.out.cell HE2.out (by simp)
    have f0 := HFQ.out.cell HG0.out (by simp)
    have hfo : Fr [] w ((w1.alloc (.cells #[.int .i64 0, .int .i64 2, .string c.key, pt ab, pt pb, .pointer none, .int .u64 SAW] 137)).drew) := (HFQ.out.alloc _).drew
    have hobk : ((w1.alloc (.cells #[.int .i64 0, .int .i64 2, .string c.key, pt ab, pt pb, .pointer none, .int .u64 SAW] 137)).drew).heap[w1.heap.size]? = _ := (Fr.refl [] _).drew.keep (new_block w1 (.cells #[.int .i64 0, .int .i64 2, .string c.key, pt ab, pt pb, .pointer none, .int .u64 SAW] 137)) (by simp)
    obtain ⟨w2, hw2⟩ : ∃ w2, w2 = (w1.alloc (.cells #[.int .i64 0, .int .i64 2, .string c.key, pt ab, pt pb, .pointer none, .int .u64 SAW] 137)).drew := ⟨_, rfl⟩
    rw [← hw2] at hfo hobk
    obtain ⟨ob, hob⟩ : ∃ ob, ob = w1.heap.size := ⟨_, rfl⟩
    rw [← hob] at hobk
    have HOB := Lib.hid hobk
    have HFO := Lib.hid hfo
    have HSZ : Hid (w.heap.size ≤ ob) := Lib.hid (by rw [hob]; exact HFQ.out.size)
    have HOE := Lib.hid hob
    have HW2 := Lib.hid hw2
    clear hob hw2 hfo hobk
    go_wp2_with fail
    go_region
    clear v1 e0 e2 f0
    have v0 := (HV0.out.keep (HFO.out.iv0 (X := X))).cell
    have f2 := HFO.out.cell HG2.out (by simp)
    go_upto_region 3 with fail
    rw [← HW2.out, ← HOE.out]
    go_region_held3 (fun W => W.cell? ⟨a.b0, 0, none⟩ = some (pt A.tb) ∧ W.cell? ⟨gb, O1 + 2, none⟩ = some (.int .u64 SEEN)) (go_keep)
      ((go_at_call 67; refine (HST.out _ _ HFO.out.drew HSZ.out ((Fr.refl [] w2).drew.keep HOB.out (by simp))).mono ?_; rintro e w5 ⟨rfl, hb5, ht5, hf5⟩
        have HB5 := Lib.hid hb5
        have HT5 := Lib.hid ht5
        have hf50 := HFO.out.drew.mono (T := A.foot) (by simp) |>.trans hf5 (by intro x hx; rcases List.mem_cons.1 hx with rfl | hx; exact Or.inr HSZ.out; exact Or.inl hx)
        have HF5 := Lib.hid hf50
        have v0 := (HV0.out.keep (HC.out.tree.iv (X := X) hf50)).cell
        have f2 := HGC.out _ hf50
        clear hb5 ht5 hf5 hf50))
    clear v0 f2
    have v0 := (HV0.out.keep (HC.out.tree.iv (X := X) HF5.out)).cell
    have HM := Lib.hid (HMK.out _ _ HSZ.out HF5.out HT5.out)
    go_wp2_with (go_at_call 81; refine HM.out.mono ?_; rintro e w9 hp9; obtain ⟨V, rfl, HRR⟩ := hp9.ret; clear hp9)
    go_ret
    exact HRR.out
end Go.Proofs.YtmhiolhgofackaaGreat
