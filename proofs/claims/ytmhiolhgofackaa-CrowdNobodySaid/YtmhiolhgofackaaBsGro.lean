/- PACKAGE bst: an Insert's work is begun -/
import Derived.Test.YtmhiolhgofackaaBsEnd
namespace Go.Proofs.Ytmhiolhgofackaa
open Go.RowKit
set_option linter.unusedVariables false
set_option linter.unusedSimpArgs false

def Tr.setWs (t : Tr) (W : List Wk) : Tr := { t with ws := W }
theorem split_ws (t : Tr) (W : List Wk) (l : Nat) (k : ByteArray) (v : Int) : (t.setWs W).split l k v = (t.split l k v).setWs W := by
  unfold Tr.split
  have e : ((t.setWs W).nd l) = t.nd l := rfl
  rw [e]
  by_cases h : (t.nd l).above k = true
  · rw [if_pos h, if_pos h]; rfl
  · rw [if_neg h, if_neg h]; rfl
theorem split_same (t : Tr) (l : Nat) (k : ByteArray) (v : Int) : (t.split l k v).ws = t.ws ∧ (t.split l k v).live = t.live ∧ (t.split l k v).ns.length = t.ns.length + 3 := by
  unfold Tr.split
  by_cases h : (t.nd l).above k = true
  · rw [if_pos h]; simp [Tr.join]
  · rw [if_neg h]; simp [Tr.join]
/-- the last work gets its next node -/
theorem TreeAt.setNext {w : World} {A : TA} {t : Tr} {W : List Wk} {o : Wk} {ob nx : Nat} {B : List Nat} (h : TreeAt w A t) (hw : t.ws = W ++ [o]) (hb : A.wb = B ++ [ob]) (hB : ob ∉ B) (hn : o.next = none) (ho : w.heap[ob]? = some (.cells (wkV A (W.length + 1) o) 121 (0, 0))) :
    TreeAt (w.setCell ⟨ob, 5, none⟩ (A.np nx)) A (t.setWs (W ++ [{ o with next := some nx }])) := by
  have hf : Fr [ob] w (w.setCell ⟨ob, 5, none⟩ (A.np nx)) := (Fr.refl _ w).setCell (Or.inl (by simp)) _
  have hout : ob ∉ A.foot := fun hm => absurd (h.toTreeB.ty _ hm _ _ _ ho) (by decide)
  have ne : ∀ k ∈ A.foot, k ∉ [ob] := fun k hk hm => by simp only [List.mem_singleton] at hm; subst hm; exact hout hk
  obtain ⟨f1, f2, f3, f4, f5⟩ := A.foot_in
  have hbl : B.length = W.length := by have := h.wlen; rw [hb, hw] at this; simpa using this
  have hlen : t.ws.length = W.length + 1 := by rw [hw]; simp
  refine ⟨⟨?_, h.mem.keep hf (ne _ f3) (fun k hk => ne _ (f4 k hk)), ownsRow_fr hf h.row (fun k hk => ne _ (f5 k hk)), h.nlen, fun p c hp => hf.keep (h.nods p c hp) ?_, ?_, by rw [h.wlen, hlen]; simp [Tr.setWs], ?_⟩, h.lo, h.top⟩
  · have := hf.keep h.blk (ne _ f1)
    simpa [treeV, Tr.setWs, hlen] using this
  · intro hm
    simp only [List.mem_singleton] at hm
    subst hm
    have h1 := h.nods p c hp
    unfold NodB at h1
    rw [ho] at h1; simp only [Option.some.injEq, Obj.cells.injEq] at h1; exact absurd h1.2.1 (by decide)
  · have := h.map.keep hf (ne _ f2)
    have e : worksG A (t.setWs (W ++ [{ o with next := some nx }])) = worksG A t := rfl
    have e2 : (t.setWs (W ++ [{ o with next := some nx }])).ws.length = t.ws.length := by rw [hlen]; simp [Tr.setWs]
    rw [e, e2]
    exact this
  · intro i b hi
    rw [hb] at hi
    rcases Nat.lt_or_ge i B.length with hlt | hge
    · rw [List.getElem?_append_left hlt] at hi
      have hne : b ∉ [ob] := by simp only [List.mem_singleton]; rintro rfl; exact hB (List.mem_of_getElem? hi)
      have h1 := h.wks i b (by rw [hb, List.getElem?_append_left hlt]; exact hi)
      have e : (t.setWs (W ++ [{ o with next := some nx }])).wk (i + 1) = t.wk (i + 1) := by
        unfold Tr.wk Tr.setWs; rw [hw]; simp only [Nat.add_sub_cancel, List.getD_eq_getElem?_getD]
        rw [List.getElem?_append_left (by omega), List.getElem?_append_left (by omega)]
      rw [e]
      exact hf.keep h1 hne
    · rw [List.getElem?_append_right hge] at hi
      have hi0 : i - B.length = 0 := by
        rcases Nat.eq_zero_or_pos (i - B.length) with h | h
        · exact h
        · rw [List.getElem?_eq_none (by simp; omega)] at hi; cases hi
      rw [hi0] at hi
      simp at hi
      subst hi
      have hie : i = W.length := by omega
      subst hie
      have e : (t.setWs (W ++ [{ o with next := some nx }])).wk (W.length + 1) = { o with next := some nx } := by
        unfold Tr.wk Tr.setWs; simp [List.getD_eq_getElem?_getD]
      rw [e]
      have := set_block ho 5 (A.np nx)
      unfold WkB
      rw [this]
      simp [wkV, hn]
theorem begin_ns (t : Tr) (o : Wk) (s : Int) : (t.begin o s).ns = t.ns := by unfold Tr.begin; dsimp only; split <;> rfl
theorem begin_len (t : Tr) (o : Wk) (s : Int) : (t.begin o s).ms.c.length = t.ms.c.length := by
  unfold Tr.begin; dsimp only; split
  · exact MS.cas_len ..
  · exact MS.cas_len ..
theorem begin_ok {t : Tr} {o : Wk} {s : Int} (h : t.ms.casB (t.word o.at_) s = true) : t.begin o s = (t.cas (t.word o.at_) s (packW o.state (t.ws.length + 1))).start o := by unfold Tr.begin; dsimp only; rw [if_pos h]
theorem begin_no {t : Tr} {o : Wk} {s : Int} (h : t.ms.casB (t.word o.at_) s = false) : t.begin o s = t.cas (t.word o.at_) s (packW o.state (t.ws.length + 1)) := by unfold Tr.begin; dsimp only; rw [if_neg (by rw [h]; simp)]
theorem begin_next {t : Tr} {o o' : Wk} {s : Int} (h : t.ms.casB (t.word o.at_) s = true) (ha : o'.at_ = o.at_) (hs : o'.state = o.state) : t.begin o' s = (t.begin o s).setWs (t.ws ++ [o']) := by
  rw [begin_ok h, begin_ok (by rw [ha]; exact h), ha, hs]; rfl

/-- what an Insert's work is begun with -/
structure GrowOk (t : Tr) (c : Cl) (l : Nat) : Prop where
  l : l < t.ns.length
  ne : c.path ≠ []
  len : c.path.length ≤ 1000000000
  no : NdOk t (c.up 0).node
  top : NdOk t 2
  cells : t.ms.c.length ≤ 65536
  asked : t.ms.n ≤ 1000000000000
  ns : t.ns.length ≤ 900000
  wks : WksIn t
  live : ∀ i, t.live i = true → i ≤ t.ws.length
  ws : t.ws.length ≤ 900000000
  was : IsU (t.ms.at (t.word (c.up 0).node))
  hlp : HlpOk t (t.ms.at (t.word (c.up 0).node))
  down : t.room = false → DescOk t ({ c with full := !t.room, path := [⟨2, false, 0⟩] } : Cl) (t.kid (t.toward 2 c.key)) .way
  path : ∀ p ∈ c.path, p.node < t.ns.length
  over : c.over = none
theorem GrowA.lift {X : List Nat} {w w' : World} {A A' : TA} {a : CA} {t t' : Tr} {c : Cl} {N : Value} (h : Cf X w A a t c N) (hc : ClIn t.ns.length c) (hf : Fr A.foot w w') (ht : TreeAt w' A' t') (he : Ext A A') : Cf X w' A' a t' c N := h.treed hf ht he hc
set_option maxHeartbeats 8000000 in
theorem step_grow {X : List Nat} {w : World} {A : TA} {a : CA} {t : Tr} {c : Cl} {N : Value} (h : Cf X w A a t c N) (hk : c.kd = .ins) (l bl : Nat) (hbl : Va X w bl 45 (A.np l)) (g : GrowOk t c l) :
    Calls Try.prog 52 #[pt a.b0, pt a.b6, pt a.b1, pt a.b4, pt bl, pt a.b2, pt a.b3] w (Post X w A a .ins N (stepP t c (.grow l)).1 (stepP t c (.grow l)).2) := by
  have HRM : Hid (Calls Try.prog 49 #[pt A.tb] w fun e w' => e = .returned (.bool t.room) ∧ w = w') := Lib.hid (nd_room A t w h.tree g.cells)
  have v0 := (h.call.ctx.vx (by rw [hk]; decide)).cell
  have v6 := (h.call.ctx.v2 hk).2.1.cell
  unfold begV fn at v6
  simp only [List.map_cons, List.map_nil] at v6
  cases hr : t.room
  · rw [hr] at HRM
    have e : stepP t c (.grow l) = (t.ask (t.toward 2 c.key).cell, ({ c with full := !t.room, path := [⟨2, false, 0⟩] } : Cl).desc t (t.kid (t.toward 2 c.key)) .way) := by
      show (if t.room = true then _ else _) = _
      rw [if_neg (by rw [hr]; simp)]
    rw [e]
    have HBG := Lib.hid (step_beg h hk g.top g.cells g.asked (g.down hr))
    clear h hbl g hr e
    go_enter Try.func52, Try.ntmps52
    go_wp2_with (first | (go_at_call 49; refine HRM.out.mono ?_; rintro e w2 ⟨rfl, rfl⟩) | (go_at_call 48; refine HBG.out.mono ?_; rintro e w2 hp2; obtain ⟨V, rfl, HRR⟩ := hp2.ret; clear hp2))
    go_ret
    exact HRR.out
  · rw [hr] at HRM
    obtain ⟨hl, hne, hlen, ⟨no1, no2, no3, no4, no5⟩, _, hcl, has, hns, hwks, hlive, hws, hwas, hhlp, _, hpath, hover⟩ := g
    have hroom : t.ms.c.length ≤ 65533 := by unfold Tr.room at hr; exact of_decide_eq_true hr
    have hway := h.call.way (Or.inl hk)
    obtain ⟨gb, cap, hs, hglt, hgw, hcell, hfree⟩ := hway.slice hne
    have hl0 : 0 < c.path.length := List.length_pos_iff.2 hne
    have hpu := c.up_get 0 hl0
    simp only [Nat.sub_zero] at hpu
    obtain ⟨e0, _, e2⟩ := hcell _ _ hpu
    obtain ⟨pb, hpb1, hpb2⟩ := h.tree.node no1
    obtain ⟨lb, hlb1, hlb2⟩ := h.tree.node hl
    have HUP : Hid (∀ W, Fr [] w W → Calls Try.prog 53 #[pt a.wb, .int .i64 0] W fun e w' => e = .returned (.pointer (some ⟨gb, (c.path.length - 1) * 3, none⟩)) ∧ Fr [] W w') := Lib.hid fun W hW => by have := way_up W A a c.key _ c.path 0 gb cap (hway.keep0 hW) hl0 hlen hs; simpa using this
    obtain ⟨O, hO⟩ : ∃ O, O = (c.path.length - 1) * 3 := ⟨_, rfl⟩
    rw [← hO] at HUP e0 e2
    obtain ⟨P, hP⟩ : ∃ P, P = (c.up 0).node := ⟨_, rfl⟩
    obtain ⟨SEEN, hSEEN⟩ : ∃ P, P = (c.up 0).seen := ⟨_, rfl⟩
    rw [← hP] at no1 no2 no3 no4 no5 hpb1 hpb2 hwas hhlp e0
    rw [← hSEEN] at e2
    rw [hpb1] at e0
    rw [hlb1] at hbl
    obtain ⟨o, ho⟩ : ∃ o : Wk, o = ⟨1, c.key, P, l, none, 0⟩ := ⟨_, rfl⟩
    have hoat : o.at_ = P := by rw [ho]
    have hwkv : ∀ i : Nat, wkV A i o = #[.int .i64 i, .int .i64 1, .string c.key, pt pb, pt lb, .pointer none, .int .u64 0] := fun i => by rw [ho]; unfold wkV; simp only [hpb1, hlb1]
    obtain ⟨OK, hOK⟩ : ∃ b, b = t.ms.casB (t.word P) SEEN := ⟨_, rfl⟩
    obtain ⟨WAS, hWAS⟩ : ∃ b, b = t.ms.at (t.word P) := ⟨_, rfl⟩
    have HST : Hid (∀ W ob, Fr [] w W → w.heap.size ≤ ob → W.heap[ob]? = some (.cells #[.int .i64 0, .int .i64 1, .string c.key, pt pb, pt lb, .pointer none, .int .u64 0] 121 (0, 0)) → Calls Try.prog 54 #[pt A.tb, pt ob, .int .u64 SEEN] W fun e w' =>
        e = .returned (.tuple #[.int .u64 WAS, .bool OK]) ∧ w'.heap[ob]? = some (.cells (wkV A (t.ws.length + 1) o) 121 (0, 0)) ∧ TreeAt w' (if OK then A.work ob else A) (t.begin o SEEN) ∧ Fr (ob :: A.foot) W w') := Lib.hid fun W ob hW hob hb => by
      have hbw : ob ∉ A.wb := fun hm => by
        obtain ⟨i, hi, rfl⟩ := List.getElem_of_mem hm
        have := lt_of_block (h.tree.wks i _ (List.getElem?_eq_getElem hi))
        omega
      have := nd_start A t o ob 0 SEEN W (h.tree.keep0 hW) hcl has (by rw [hwkv]; exact hb) (by rw [hoat]; exact no1) (by rw [hoat]; exact ⟨no4, no5⟩) hlive (by omega) hbw
      unfold Started at this
      rw [hoat, ← hOK, ← hWAS] at this
      exact this
    have HC := Lib.hid h
    have HVB := Lib.hid hbl
    have HV0 := Lib.hid (h.call.ctx.vx (by rw [hk]; decide))
    have HV1 := Lib.hid h.call.ctx.vk
    have HV2 := Lib.hid (h.call.ctx.v2 hk).1
    have HV3 := Lib.hid h.call.ctx.vt
    have HV4 := Lib.hid (h.call.ctx.vw (Or.inl hk))
    have v1 := HV1.out.cell
    have v4 := HV4.out.cell
    have vb := HVB.out.cell
    have HLT : Hid (a.b0 < w.heap.size ∧ a.b1 < w.heap.size ∧ a.b4 < w.heap.size ∧ bl < w.heap.size ∧ gb < w.heap.size) := Lib.hid ⟨HV0.out.lt, HV1.out.lt, HV4.out.lt, HVB.out.lt, hglt⟩
    have HE0 := Lib.hid e0
    have HE2 := Lib.hid e2
    have hstep : stepP t c (.grow l) = if OK = true then (((t.begin ⟨1, c.key, P, l, some (t.ns.length + 2), 0⟩ SEEN).split l c.key c.val), (c, some (.take (t.ws.length + 1) (t.ns.length + 2) (.told l)))) else (t.begin o SEEN, c.met t WAS) := by
      show (if t.room = true then _ else _) = _
      rw [if_pos hr]
      show (if t.ms.casB (t.word (c.up 0).node) (c.up 0).seen = true then _ else _) = _
      rw [← hP, ← hSEEN, ← hOK, ho, hWAS]
    rw [hstep]
    have HGC : Hid (∀ W, Fr A.foot w W → W.cell? ⟨gb, O + 2, none⟩ = some (.int .u64 SEEN)) := Lib.hid fun W hW => hW.cell e2 (h.call.sep h.tree gb (CA.way_in (Or.inl hk) _ (by rw [WayAt.foot, hs]; simp [Value.ownBlock])))
    cases OK
    · rw [if_neg Bool.false_ne_true]
      have hbeg := begin_no (t := t) (o := o) (s := SEEN) (by rw [hoat]; exact hOK.symm)
      rw [hbeg] at HST ⊢
      have HMT : Hid (∀ W, Fr A.foot w W → TreeAt W A (t.cas (t.word o.at_) SEEN (packW o.state (t.ws.length + 1))) → Calls Try.prog 55 #[pt a.wb, .int .u64 WAS] W (Post X w A a .ins N (t.cas (t.word o.at_) SEEN (packW o.state (t.ws.length + 1))) (c.met t WAS))) := Lib.hid fun W hf ht =>
        (bt_met (h.treed0 hf ht) hk (Or.inl rfl) WAS (by rw [hWAS]; exact hwas) (by rw [hWAS]; exact hhlp) (by show t.ws.length ≤ _; omega) hne hlen).mono fun e w' hp => hp.treed hf
      generalize t.cas (t.word o.at_) SEEN (packW o.state (t.ws.length + 1)) = t2 at *
      clear hbeg
      clear h hbl hway hs hglt hgw hcell hfree hl0 hpu hpb1 hpb2 hlb1 hlb2 hl hne hlen no1 no2 no3 no4 no5 hcl has hns hwks hlive hws hwas hhlp hpath hover hroom hO hP hSEEN hr hstep v6 hwkv hoat ho hOK hWAS
      go_enter Try.func52, Try.ntmps52
      go_wp2_with (go_at_call 49; refine HRM.out.mono ?_; rintro e w2 ⟨rfl, rfl⟩)
      go_region_held3 (fun W => W.cell? ⟨a.b1, 0, none⟩ = some (.string c.key) ∧ W.cell? ⟨a.b4, 0, none⟩ = some (pt a.wb) ∧ W.cell? ⟨bl, 0, none⟩ = some (pt lb) ∧ W.cell? ⟨gb, O, none⟩ = some (pt pb)) (go_keep)
        ((go_at_call 53; refine (HUP.out _ (Fr.refl [] w).drew).mono ?_; rintro e w1 ⟨rfl, hf1⟩
          have hf := (Fr.refl [] w).drew.trans hf1 (by simp)
          have HF1 := Lib.hid hf
          have v1 := hf.cell v1 (by simp)
          have v4 := hf.cell v4 (by simp)
          have vb := hf.cell vb (by simp)
          have e0 := hf.cell e0 (by simp)
          have hsz := hf.size
          have n1 : ¬ a.b1 = w1.heap.size := by have := HLT.out; omega
          have n4 : ¬ a.b4 = w1.heap.size := by have := HLT.out; omega
          have nb : ¬ bl = w1.heap.size := by have := HLT.out; omega
          have ng : ¬ gb = w1.heap.size := by have := HLT.out; omega
          clear hf hf1))
      have hfo : Fr [] w (w1.alloc (.cells #[.int .i64 0, .int .i64 1, .string c.key, pt pb, pt lb, .pointer none, .int .u64 0] 121)) := HF1.out.alloc _
      have hobk := new_block w1 (.cells #[.int .i64 0, .int .i64 1, .string c.key, pt pb, pt lb, .pointer none, .int .u64 0] 121)
      obtain ⟨w2, hw2⟩ : ∃ w2, w2 = w1.alloc (.cells #[.int .i64 0, .int .i64 1, .string c.key, pt pb, pt lb, .pointer none, .int .u64 0] 121) := ⟨_, rfl⟩
      rw [← hw2] at hfo hobk
      obtain ⟨ob, hob⟩ : ∃ ob, ob = w1.heap.size := ⟨_, rfl⟩
      rw [← hob] at hobk
      have HOB := Lib.hid hobk
      have HFO := Lib.hid hfo
      have HSZ : Hid (w.heap.size ≤ ob) := Lib.hid (by rw [hob]; exact hsz)
      have HOE := Lib.hid hob
      have HW2 := Lib.hid hw2
      clear v1 v4 vb e0 n1 n4 nb ng hsz e2 v0
      have v0 := (HV0.out.keep (hfo.iv0 (X := X))).cell
      have v4 := (HV4.out.keep (hfo.iv0 (X := X))).cell
      have e2 := hfo.cell HE2.out (by simp)
      clear hob hw2 hfo hobk
      go_upto_region 4 with fail
      rw [← HW2.out, ← HOE.out]
      go_region_held3 (fun W => W.cell? ⟨a.b0, 0, none⟩ = some (pt A.tb) ∧ W.cell? ⟨a.b4, 0, none⟩ = some (pt a.wb) ∧ W.cell? ⟨gb, O + 2, none⟩ = some (.int .u64 SEEN)) (go_keep)
        (first
          | (go_at_call 53; refine (HUP.out _ HFO.out.drew).mono ?_; rintro e w3 ⟨rfl, hf3⟩
             have hf := HFO.out.drew.trans hf3 (by simp)
             have HF3 := Lib.hid hf
             have HOB3 := Lib.hid (hf3.keep ((Fr.refl [] w2).drew.keep HOB.out (by simp)) (by simp))
             have v0 := (HV0.out.keep (hf.iv0 (X := X))).cell
             have v4 := (HV4.out.keep (hf.iv0 (X := X))).cell
             have e2 := hf.cell HE2.out (by simp)
             clear hf hf3)
          | (go_at_call 54; refine (HST.out _ _ HF3.out HSZ.out HOB3.out).mono ?_; rintro e w5 ⟨rfl, hb5, ht5, hf5⟩
             have HB5 := Lib.hid hb5
             have HT5 := Lib.hid ht5
             have hf50 := HF3.out.mono (T := A.foot) (by simp) |>.trans hf5 (by intro x hx; rcases List.mem_cons.1 hx with rfl | hx; exact Or.inr HSZ.out; exact Or.inl hx)
             have HF5 := Lib.hid hf50
             have hi := HC.out.tree.iv (X := X) hf50
             have v0 := (HV0.out.keep hi).cell
             have v4 := (HV4.out.keep hi).cell
             have e2 := HGC.out _ hf50
             clear hb5 ht5 hf5 hf50 hi))
      go_wp2_with (go_at_call 55; refine (HMT.out _ HF5.out HT5.out).mono ?_; rintro e w9 hp9; obtain ⟨V, rfl, HRR⟩ := hp9.ret; clear hp9)
      go_ret
      exact HRR.out
    · rw [if_pos rfl]
      have hok' : t.ms.casB (t.word o.at_) SEEN = true := by rw [hoat]; exact hOK.symm
      have hbns := begin_ns t o SEEN
      have hbln := begin_len t o SEEN
      have hbok := begin_ok hok'
      have hbnx : t.begin ⟨1, c.key, P, l, some (t.ns.length + 2), 0⟩ SEEN = (t.begin o SEEN).setWs (t.ws ++ [⟨1, c.key, P, l, some (t.ns.length + 2), 0⟩]) := begin_next hok' (by rw [ho]) (by rw [ho])
      have hbws : (t.begin o SEEN).ws = t.ws ++ [o] := by rw [hbok]; rfl
      rw [hbnx, split_ws]
      simp only [if_true] at HST
      obtain ⟨t2, ht2⟩ : ∃ t2, t2 = t.begin o SEEN := ⟨_, rfl⟩
      rw [← ht2] at HST hbns hbln hbws ⊢
      have hwk2 : WksIn t2 := by
        intro o' ho'
        rw [hbws] at ho'
        rw [hbns]
        rcases List.mem_append.1 ho' with h1 | h1
        · exact hwks o' h1
        · simp only [List.mem_singleton] at h1
          subst h1
          rw [ho]
          exact ⟨no1, hl, fun p hp => by cases hp⟩
      have HSPL : Hid (∀ W ob, TreeAt W (A.work ob) t2 → Calls Try.prog 56 #[pt A.tb, pt lb, .string c.key, .int .u64 c.val] W fun e w' => ∃ A' nb, e = .returned (pt nb) ∧ pt nb = A'.np (t.ns.length + 2) ∧ TreeAt w' A' (t2.split l c.key c.val) ∧ Fr A.foot W w' ∧ GrowA W (A.work ob) A') := Lib.hid fun W ob hW => by
        have := nd_split (A.work ob) t2 l c.key c.val W hW (by rw [hbns]; exact hns) hwk2 (by rw [hbln]; exact hroom) (by rw [hbns]; exact hl)
        rw [show (A.work ob).np l = pt lb from hlb1] at this
        refine this.mono ?_
        rintro e w' ⟨A', h1, h2, h3, h4⟩
        rw [hbns] at h1
        exact ⟨A', _, h1, rfl, h2, h3, h4⟩
      have HAFT : Hid (∀ (w5 w6 : World) ob A' nb, w.heap.size ≤ ob → Fr A.foot w w5 → TreeAt w5 (A.work ob) t2 → w5.heap[ob]? = some (.cells (wkV A (t.ws.length + 1) o) 121 (0, 0)) → TreeAt w6 A' (t2.split l c.key c.val) → Fr A.foot w5 w6 → GrowA w5 (A.work ob) A' → pt nb = A'.np (t.ns.length + 2) →
          w6.cell? ⟨ob, 5, none⟩ = some (.pointer none) ∧ w6.frozen? ⟨ob, 5, none⟩ = false ∧ (w6.setCell ⟨ob, 5, none⟩ (pt nb)).cell? ⟨ob, 5, none⟩ = some (pt nb) ∧ Iv X w w6 ∧ Iv X w (w6.setCell ⟨ob, 5, none⟩ (pt nb)) ∧ ∀ W, Fr [] (w6.setCell ⟨ob, 5, none⟩ (pt nb)) W → Calls Try.prog 57 #[pt A.tb, pt ob, pt nb, .func (.func 58) #[] #[pt a.b3, pt a.b1, pt a.b2]] W fun e w' => Post X w A a .ins N ((t2.split l c.key c.val).setWs (t.ws ++ [⟨1, c.key, P, l, some (t.ns.length + 2), 0⟩])) (c, some (.take (t.ws.length + 1) (t.ns.length + 2) (.told l))) e w' ∧ Iv X w w' ∧ w'.cell? ⟨ob, 5, none⟩ = some (pt nb)) := Lib.hid (by
        intro w5 w6 ob A' nb hob hf5 ht5 hb5 ht6 hf6 hg6 hnb
        obtain ⟨z1, z2, z3⟩ := split_same t2 l c.key c.val
        have hext : Ext A A' := (A.work_ext ob).trans hg6.ext
        have hobw : ob ∉ A.wb := fun hm => by
          obtain ⟨i, hi, rfl⟩ := List.getElem_of_mem hm
          have := lt_of_block (h.tree.wks i _ (List.getElem?_eq_getElem hi))
          omega
        have hA'wb : A'.wb = A.wb ++ [ob] := hg6.wb
        have hlenA := h.tree.nlen
        have hb6 : w6.heap[ob]? = some (.cells (wkV A' (t.ws.length + 1) o) 121 (0, 0)) := by
          have h1 := ht5.toTreeB.wkK hf6 (A' := A) (b := ob) (i := t.ws.length + 1) (o := o) hb5
          unfold WkB at h1
          rw [h1, hwkv]
          have e1 : A'.np P = pt pb := by rw [hext.nb P (by rw [hlenA]; exact no1)]; exact hpb1
          have e2 : A'.np l = pt lb := by rw [hext.nb l (by rw [hlenA]; exact hl)]; exact hlb1
          rw [ho]; unfold wkV; simp only [e1, e2]
        have hnone : o.next = none := by rw [ho]
        have hset := ht6.setNext (W := t.ws) (o := o) (ob := ob) (nx := t.ns.length + 2) (B := A.wb) (by rw [z1, hbws]) hA'wb hobw hnone hb6
        rw [← hnb] at hset
        have hos : ({ o with next := some (t.ns.length + 2) } : Wk) = ⟨1, c.key, P, l, some (t.ns.length + 2), 0⟩ := by rw [ho]
        rw [hos] at hset
        have hf56 : Fr A.foot w w6 := hf5.trans hf6 (fun x hx => Or.inl hx)
        have hf7 : Fr A.foot w (w6.setCell ⟨ob, 5, none⟩ (pt nb)) := hf56.setCell (Or.inr hob) _
        have hclin : ClIn t.ns.length c := ⟨hpath, fun p hp => by rw [hover] at hp; cases hp⟩
        have hcf := h.treed hf7 hset hext hclin
        have hc5 := cell_block hb6 5
        have hwp : A'.wp (t.ws.length + 1) = pt ob := by
          unfold TA.wp; rw [hA'wb]; have := h.tree.wlen; simp [List.getD_eq_getElem?_getD, ← this]
        have hset5 := set_block hb6 5 (pt nb)
        have hc7 : (w6.setCell ⟨ob, 5, none⟩ (pt nb)).cell? ⟨ob, 5, none⟩ = some (pt nb) := by have := cell_block hset5 5; simpa [wkV] using this
        refine ⟨by rw [hc5]; simp [wkV, hnone], free_block hb6 5, hc7, h.tree.iv hf56, h.tree.iv hf7, fun W hW => ?_⟩
        have htk := bt_take (hcf.keep0 hW) hk (t.ws.length + 1) (t.ns.length + 2) (.told l) _ (show ThAt X W A' a .ins (fn 58 [a.b3, a.b1, a.b2]) (.told l) from rfl)
        rw [hwp, ← hnb, hext.tb] at htk
        refine htk.mono fun e w' hp => ?_
        have hfoot : ∀ x ∈ Both A' a .ins, x ∈ Both A a .ins ∨ w.heap.size ≤ x := fun x hx => by
          rcases List.mem_append.1 hx with hx | hx
          · rcases hg6.foot x hx with h1 | h1
            · exact Or.inl (List.mem_append_left _ h1)
            · exact Or.inr (Nat.le_trans hf5.size h1)
          · exact Or.inl (List.mem_append_right _ hx)
        have hf7b : Fr (Both A a .ins) w W := (hf7.mono (fun k hk => Or.inl (List.mem_append_left _ hk))).trans (T := []) hW (by simp)
        have hi2 := Post.iv (hcf.keep0 hW) (by rw [hk]; exact hp)
        refine ⟨hp.trans hext ⟨a.pv, rfl⟩ hf7b hfoot, ((h.tree.iv hf7).trans hW.iv0).trans hi2, ?_⟩
        have := hi2.keep _ _ (hW.keep hset5 (by simp)) ⟨_, _, rfl, Or.inl (by simp [immT])⟩
        have := cell_block this 5
        simpa [wkV] using this)
      have HV2C := HV2.out
      clear ht2 hbok hbnx hbws hbns hbln hwk2 hok'
      clear h hbl hway hs hglt hgw hcell hfree hl0 hpu hpb1 hpb2 hlb1 hlb2 hl hne hlen no1 no2 no3 no4 no5 hcl has hns hwks hlive hws hwas hhlp hpath hover hroom hO hP hSEEN hr hstep v6 hwkv hoat ho hOK hWAS
      go_enter Try.func52, Try.ntmps52
      go_wp2_with (go_at_call 49; refine HRM.out.mono ?_; rintro e w2 ⟨rfl, rfl⟩)
      go_region_held3 (fun W => W.cell? ⟨a.b1, 0, none⟩ = some (.string c.key) ∧ W.cell? ⟨a.b4, 0, none⟩ = some (pt a.wb) ∧ W.cell? ⟨bl, 0, none⟩ = some (pt lb) ∧ W.cell? ⟨gb, O, none⟩ = some (pt pb)) (go_keep)
        ((go_at_call 53; refine (HUP.out _ (Fr.refl [] w).drew).mono ?_; rintro e w1 ⟨rfl, hf1⟩
          have hf := (Fr.refl [] w).drew.trans hf1 (by simp)
          have HF1 := Lib.hid hf
          have v1 := hf.cell v1 (by simp)
          have v4 := hf.cell v4 (by simp)
          have vb := hf.cell vb (by simp)
          have e0 := hf.cell e0 (by simp)
          have hsz := hf.size
          have n1 : ¬ a.b1 = w1.heap.size := by have := HLT.out; omega
          have n4 : ¬ a.b4 = w1.heap.size := by have := HLT.out; omega
          have nb : ¬ bl = w1.heap.size := by have := HLT.out; omega
          have ng : ¬ gb = w1.heap.size := by have := HLT.out; omega
          clear hf hf1))
      have hfo : Fr [] w (w1.alloc (.cells #[.int .i64 0, .int .i64 1, .string c.key, pt pb, pt lb, .pointer none, .int .u64 0] 121)) := HF1.out.alloc _
      have hobk := new_block w1 (.cells #[.int .i64 0, .int .i64 1, .string c.key, pt pb, pt lb, .pointer none, .int .u64 0] 121)
      obtain ⟨w2, hw2⟩ : ∃ w2, w2 = w1.alloc (.cells #[.int .i64 0, .int .i64 1, .string c.key, pt pb, pt lb, .pointer none, .int .u64 0] 121) := ⟨_, rfl⟩
      rw [← hw2] at hfo hobk
      obtain ⟨ob, hob⟩ : ∃ ob, ob = w1.heap.size := ⟨_, rfl⟩
      rw [← hob] at hobk
      have HOB := Lib.hid hobk
      have HFO := Lib.hid hfo
      have HSZ : Hid (w.heap.size ≤ ob) := Lib.hid (by rw [hob]; exact hsz)
      have HOE := Lib.hid hob
      have HW2 := Lib.hid hw2
      clear v1 v4 vb e0 n1 n4 nb ng hsz e2 v0
      have v0 := (HV0.out.keep (hfo.iv0 (X := X))).cell
      have v4 := (HV4.out.keep (hfo.iv0 (X := X))).cell
      have e2 := hfo.cell HE2.out (by simp)
      clear hob hw2 hfo hobk
      go_upto_region 4 with fail
      rw [← HW2.out, ← HOE.out]
      go_region_held3 (fun W => W.cell? ⟨a.b0, 0, none⟩ = some (pt A.tb) ∧ W.cell? ⟨a.b4, 0, none⟩ = some (pt a.wb) ∧ W.cell? ⟨gb, O + 2, none⟩ = some (.int .u64 SEEN)) (go_keep)
        (first
          | (go_at_call 53; refine (HUP.out _ HFO.out.drew).mono ?_; rintro e w3 ⟨rfl, hf3⟩
             have hf := HFO.out.drew.trans hf3 (by simp)
             have HF3 := Lib.hid hf
             have HOB3 := Lib.hid (hf3.keep ((Fr.refl [] w2).drew.keep HOB.out (by simp)) (by simp))
             have v0 := (HV0.out.keep (hf.iv0 (X := X))).cell
             have v4 := (HV4.out.keep (hf.iv0 (X := X))).cell
             have e2 := hf.cell HE2.out (by simp)
             clear hf hf3)
          | (go_at_call 54; refine (HST.out _ _ HF3.out HSZ.out HOB3.out).mono ?_; rintro e w5 ⟨rfl, hb5, ht5, hf5⟩
             have HB5 := Lib.hid hb5
             have HT5 := Lib.hid ht5
             have hf50 := HF3.out.mono (T := A.foot) (by simp) |>.trans hf5 (by intro x hx; rcases List.mem_cons.1 hx with rfl | hx; exact Or.inr HSZ.out; exact Or.inl hx)
             have HF5 := Lib.hid hf50
             have hi := HC.out.tree.iv (X := X) hf50
             have v0 := (HV0.out.keep hi).cell
             have v4 := (HV4.out.keep hi).cell
             have e2 := HGC.out _ hf50
             clear hb5 ht5 hf5 hf50 hi))
      have hi5 := HC.out.tree.iv (X := X) HF5.out
      have vb := (HVB.out.keep hi5).cell
      have v1 := (HV1.out.keep hi5).cell
      have v2 := (HV2.out.keep hi5).cell
      go_wp2_with (go_at_call 56; refine (HSPL.out _ _ HT5.out).mono ?_; rintro e w6 ⟨A', nb, rfl, hnb, ht6, hf6, hg6⟩; have HNB := Lib.hid hnb; clear hnb; refine go_stop ?_)
      unfold Stop
      obtain ⟨c5, f5, c7, hi6, hi7, htk⟩ := HAFT.out _ _ _ _ _ HSZ.out HF5.out HT5.out HB5.out ht6 hf6 hg6 HNB.out
      have HTK := Lib.hid htk
      have HI7 := Lib.hid hi7
      have v07 := (HV0.out.keep hi7).cell
      have v17 := (HV1.out.keep hi7).cell
      have v67 := (HV0.out.keep hi6).cell
      clear ht6 hf6 hg6 hi6 hi7 htk hi5 v0 v1 v2 v4 vb e2
      go_wp2_with fail
      obtain ⟨w7, hw7⟩ : ∃ w7, w7 = w6.setCell ⟨ob, 5, none⟩ (pt nb) := ⟨_, rfl⟩
      rw [← hw7] at v07 v17 c7 HTK HI7 ⊢
      clear hw7 c5 f5 v67
      go_region_held3 (fun W => W.cell? ⟨a.b0, 0, none⟩ = some (pt A.tb) ∧ W.cell? ⟨ob, 5, none⟩ = some (pt nb)) (go_keep)
        ((go_at_call 57; refine (HTK.out _ (Fr.refl [] w7).drew).mono ?_; rintro e w9 ⟨hp9, hi9, c59⟩
          have v07 := (HV0.out.keep hi9).cell
          obtain ⟨V, rfl, HRR⟩ := hp9.ret
          clear hp9 hi9))
      all_goals go_wp2
      all_goals go_ret
      all_goals exact HRR.out
end Go.Proofs.Ytmhiolhgofackaa
