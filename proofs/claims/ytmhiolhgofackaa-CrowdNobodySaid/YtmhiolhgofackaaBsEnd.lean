/- PACKAGE bst: end (written by bst_end.py)
PACKAGE bst: begin -/
import Derived.Test.YtmhiolhgofackaaBsLook
namespace Go.Proofs.Ytmhiolhgofackaa
open Go.RowKit Go.Maps
set_option linter.unusedVariables false
set_option linter.unusedSimpArgs false

theorem MapG.del {P : Program} {k t E : TypeId} {κ : Type} {K : KeyD κ} {ok : Value → Bool} {w : World} {b n : Nat} {M : κ → Option Value} (T : KeyT P k K) (h : MapG P k K ok w b n M) (ht : P.underlying t = some (.map k E)) [DecidableEq κ] {e : κ} (he : K.ok e) (ty : TypeId) :
    ∃ w', (Builtin.delete_ #[t, k] ty #[.map (some b), K.v e]).run P w = .ok (.tuple #[]) w' ∧ MapG P k K ok w' b n (fun z => if z = e then none else M z) ∧ Fr [b] w w' := by
  obtain ⟨D, h, tl⟩ := h
  obtain ⟨w', hrun, r1, r2⟩ := h.drop T.keyed ht (T.key e he) ty
  refine ⟨w', hrun, ⟨_, r1, fun z hz zd => ?_⟩, fr_grownG r2.grown⟩
  dsimp only
  by_cases hze : z = e
  · subst hze
    rw [if_pos rfl, atKey_del_same]
    rfl
  · rw [if_neg hze, atKey_del_other (T.ne hze), tl z hz]
def Tr.done (t : Tr) (o : Nat) : Tr := { t with live := fun i => if i = o then false else t.live i }
theorem TreeAt.doned {w w' : World} {A : TA} {t : Tr} (h : TreeAt w A t) {o : Nat} (ho : 1 ≤ o) (hm : MapG Try.prog 3 intD ptOk w' A.mp t.ws.length (fun z => if z = (o : Int) then none else worksG A t z)) (hf : Fr [A.mp] w w') : TreeAt w' A (t.done o) ∧ Fr A.foot w w' := by
  obtain ⟨a1, a2, a3, a4, a5, a6⟩ := h.apart
  have hff : Fr A.foot w w' := hf.mono (by intro k hk; simp at hk; subst hk; exact Or.inl A.foot_in.2.1)
  refine ⟨⟨⟨hf.keep h.blk (by simpa using a1), h.mem.keep hf (by simpa using fun e => a3 e.symm) (fun k hk => by simpa using (a4 k hk).2.1), ownsRow_fr hf h.row (fun k hk => by simpa using (a5 k hk).2.1), h.nlen, fun p b hp => h.toTreeB.nodK hff (h.nods p b hp), hm.eq fun z _ => ?_, h.wlen, fun i b hb => h.toTreeB.wkK hff (h.wks i b hb)⟩, h.lo, h.top⟩, hff⟩
  unfold worksG Tr.done
  dsimp only
  by_cases e : z = (o : Int)
  · subst e
    rw [if_pos rfl]
    simp
  · rw [if_neg e]
    by_cases h0 : 0 < z
    · have : z.toNat ≠ o := by omega
      simp only [if_neg this]
    · rw [if_neg (fun h => h0 h.1), if_neg (fun h => h0 h.1)]
/-! what is gone on by -/
theorem run_look {X : List Nat} {w : World} {A : TA} {a : CA} {t : Tr} {c : Cl} {N : Value} {kd : Kd} (h : Cf X w A a t c N) (hk : c.kd = kd) :
    Calls Try.prog 78 #[pt a.wb] w (Post X w A a kd N t (c.run t .look)) := bt_look h hk
set_option maxHeartbeats 2000000 in
theorem run_toldi {X : List Nat} {w : World} {A : TA} {a : CA} {t : Tr} {c : Cl} {N : Value} (h : Cf X w A a t c N) (hk : c.kd = .ins) (l : Nat) :
    Calls Try.prog 58 #[pt a.b3, pt a.b1, pt a.b2] w (Post X w A a .ins N t (c.run t (.told l))) := by
  have e : c.run t (.told l) = (c.tell ⟨true, c.key, c.val, 0⟩, none) := by unfold Cl.run; dsimp only; rw [if_pos hk]
  rw [e]
  have HT : Hid (Calls Try.prog 42 #[.agg #[.bool true, .string c.key, .int .u64 c.val, .int .i64 0], pt a.bc] w (Post X w A a .ins N t (c.tell ⟨true, c.key, c.val, 0⟩, none))) := Lib.hid (bt_tell h hk _)
  have v1 := h.call.ctx.vk.cell
  have v3 := h.call.ctx.vt.cell
  have v2 := (h.call.ctx.v2 hk).1.cell
  unfold tellV fn at v3
  simp only [List.map_cons, List.map_nil] at v3
  clear h e
  go_enter Try.func58, Try.ntmps58
  go_wp2_with (go_at_call 42; refine HT.out.mono ?_; rintro e w2 hp2; obtain ⟨V, rfl, HRR⟩ := hp2.ret; clear hp2)
  go_ret
  exact HRR.out
set_option maxHeartbeats 4000000 in
theorem step_end_toldi {X : List Nat} {w : World} {A : TA} {a : CA} {t : Tr} {c : Cl} {N : Value} (h : Cf X w A a t c N) (hk : c.kd = .ins) (o : Nat) (l : Nat) (p0 p1 p2 : Nat) (h0 : Va X w p0 96 (pt A.tb)) (h1 : Va X w p1 115 (A.wp o))
    (h3 : Va X w p2 59 (fn 58 [a.b3, a.b1, a.b2])) (hl : t.ms.c.length ≤ 65536) (hn : t.ms.n ≤ 1000000000000) (ho : WkOk t o) (hws : t.ws.length ≤ 1000000000) :
    Calls Try.prog 91 #[pt p0, pt p1, pt p2] w (Post X w A a .ins N ((t.cas (t.word (t.wk o).at_) (packW (t.wk o).state o) (packW 0 o)).done o) (c.run t (.told l))) := by
  obtain ⟨ho1, ho2, ⟨no1, no2, no3, no4, no5⟩, ho4⟩ := ho
  obtain ⟨ob, hob1, hob2⟩ := h.tree.work ho1 ho2
  obtain ⟨ab, hab1, hab2⟩ := h.tree.node no1
  have HWD : Hid (∀ W, Fr [] w W → Calls Try.prog 73 #[pt ab] W fun e w' => e = .returned (.int .i64 (t.word (t.wk o).at_)) ∧ W = w') := Lib.hid fun W hW => nd_word _ _ ab W (hW.keep hab2 (by simp)) no4 no5
  have HWW : Hid (∀ W s, Fr [] w W → Calls Try.prog 74 #[pt ob, .int .i64 s] W fun e w' => e = .returned (.int .u64 (packW s o)) ∧ W = w') := Lib.hid fun W s hW => wk_word A ob _ _ s W (hW.keep hob2 (by simp))
  obtain ⟨WD, hWD⟩ : ∃ x, x = t.word (t.wk o).at_ := ⟨_, rfl⟩
  obtain ⟨ST, hST⟩ : ∃ x, x = (t.wk o).state := ⟨_, rfl⟩
  rw [← hWD] at HWD
  rw [← hWD, ← hST]
  have HCS : Hid (∀ W, Fr [] w W → Calls Try.prog 72 #[pt A.mb, .int .i64 WD, .int .u64 (packW ST o), .int .u64 (packW 0 o)] W fun e w' => e = .returned (.tuple #[.int .u64 (t.ms.at WD), .bool (t.ms.casB WD (packW ST o))]) ∧ Cf X w' A a (t.cas WD (packW ST o) (packW 0 o)) c N ∧ Fr A.foot w w') := Lib.hid fun W hW => ((h.tree.keep0 hW).casd hl hn _ _ _).mono fun e w' ⟨he, ht, hf⟩ =>
    ⟨he, (h.keep0 hW).treed0 hf ht, (hW.mono (by simp)).trans hf (fun x hx => Or.inl hx)⟩
  obtain ⟨WAS, hWAS⟩ : ∃ x, x = t.ms.at WD := ⟨_, rfl⟩
  obtain ⟨OK, hOK⟩ : ∃ x, x = t.ms.casB WD (packW ST o) := ⟨_, rfl⟩
  obtain ⟨t1, ht1⟩ : ∃ t1, t1 = t.cas WD (packW ST o) (packW 0 o) := ⟨_, rfl⟩
  rw [← hWAS, ← hOK, ← ht1] at HCS
  rw [← ht1]
  have hrunq : c.run t (.told l) = c.run (t1.done o) (.told l) := by rw [ht1]; rfl
  rw [hrunq]
  have HT1 : Hid (t1.ns.length = t.ns.length ∧ t1.ws.length ≤ 1000000000 ∧ 1 ≤ o ∧ o ≤ 1000000000) := Lib.hid (by rw [ht1]; exact ⟨rfl, hws, ho1, by omega⟩)
  have HRUN : Hid (∀ W, Cf X W A a (t1.done o) c N → Iv X w W → Calls Try.prog 58 #[pt a.b3, pt a.b1, pt a.b2] W (Post X W A a .ins N (t1.done o) (c.run (t1.done o) (.told l)))) := Lib.hid fun W hW hi => run_toldi hW hk l
  have HIV := Lib.hid (show ∀ W, Fr A.foot w W → Iv X w W from fun W hW => h.tree.iv hW)
  rw [hob1] at h1
  have H0 := Lib.hid h0
  have H1 := Lib.hid h1
  have H3 := Lib.hid h3
  have HW := Lib.hid hob2
  have v0 := h0.cell
  have v1 := h1.cell
  obtain ⟨_, y1, _, y3, _, _, _⟩ := wk_cells hob2
  rw [hab1] at y3
  rw [← hST] at y1
  have HST := Lib.hid hST
  have HAB := Lib.hid hab1
  obtain ⟨q0, _⟩ := tree_cells h.tree.toTreeB
  clear h h0 h1 h3 hl hn ho1 ho2 no1 no2 no3 no4 no5 ho4 hob1 hob2 hab1 hab2 ht1 hWD hST hWAS hOK hrunq
  go_enter Try.func91, Try.ntmps91
  go_wp2_with fail
  go_region_held3 (fun W => W.cell? ⟨p0, 0, none⟩ = some (pt A.tb) ∧ W.cell? ⟨p1, 0, none⟩ = some (pt ob) ∧ W.cell? ⟨A.tb, 0, none⟩ = some (pt A.mb) ∧ W.cell? ⟨ob, 3, none⟩ = some (pt ab) ∧ W.cell? ⟨ob, 1, none⟩ = some (.int .i64 ST)) (go_keep)
    (first
      | (go_at_call 73; refine (HWD.out _ (Fr.refl [] w).drew).mono ?_; rintro e w2 ⟨rfl, rfl⟩)
      | (go_at_call 74; refine (HWW.out _ _ (Fr.refl [] w).drew).mono ?_; rintro e w2 ⟨rfl, rfl⟩)
      | (go_at_call 72; refine (HCS.out _ (Fr.refl [] w).drew).mono ?_; rintro e w4 ⟨rfl, hc4, hf4⟩
         have HC4 := Lib.hid hc4
         have HF4 := Lib.hid hf4
         have hi := HIV.out _ hf4
         have v0 := (H0.out.keep hi).cell
         have v1 := (H1.out.keep hi).cell
         obtain ⟨y0, y1, _, y3, _, _, _⟩ := wk_cells (HW.out.keepI hi)
         rw [HAB.out] at y3
         rw [← HST.out] at y1
         obtain ⟨q0, q1, q2, q3, _⟩ := tree_cells hc4.tree.toTreeB
         clear hc4 hf4 hi))
  have hd := MapG.del KI (HC4.out.tree.map.keep (Fr.refl [] w4).drew (by simp)) wk_map (e := (o : Int)) (KI_ok (by have := HT1.out; omega) (by have := HT1.out; omega)) 0
  obtain ⟨w5, hdl, hm5, hf5⟩ := hd
  have htd := (HC4.out.tree.keep0 (Fr.refl [] w4).drew).doned HT1.out.2.2.1 hm5 hf5
  have hc5 := (HC4.out.keep0 (Fr.refl [] w4).drew).treed0 htd.2 htd.1
  have HC5 := Lib.hid hc5
  have HF5 := Lib.hid (HF4.out.trans (T := A.foot) (((Fr.refl A.foot w4).drew).trans htd.2 (fun x hx => Or.inl hx)) (fun x hx => Or.inl hx))
  have v3 := (H3.out.keep (HIV.out _ HF5.out)).cell
  unfold fn at v3
  simp only [List.map_cons, List.map_nil] at v3
  simp only [intD] at hdl
  clear hm5 hf5 htd hc5
  go_wp2_with fail
  go_region
  go_wp2_with (go_at_call 58; refine (HRUN.out _ HC5.out (HIV.out _ HF5.out)).mono ?_; rintro e w9 hp9; obtain ⟨V, rfl, HRR⟩ := (hp9.treed HF5.out).ret; clear hp9)
  go_ret
  exact HRR.out

set_option maxHeartbeats 4000000 in
theorem step_end_look {X : List Nat} {w : World} {A : TA} {a : CA} {t : Tr} {c : Cl} {N : Value} {kd : Kd} (h : Cf X w A a t c N) (hk : c.kd = kd) (o : Nat) (p0 p1 p2 : Nat) (h0 : Va X w p0 96 (pt A.tb)) (h1 : Va X w p1 115 (A.wp o))
    (h3 : Va X w p2 59 (.func (.func 78) #[pt a.wb] #[])) (hl : t.ms.c.length ≤ 65536) (hn : t.ms.n ≤ 1000000000000) (ho : WkOk t o) (hws : t.ws.length ≤ 1000000000) :
    Calls Try.prog 91 #[pt p0, pt p1, pt p2] w (Post X w A a kd N ((t.cas (t.word (t.wk o).at_) (packW (t.wk o).state o) (packW 0 o)).done o) (c.run t .look)) := by
  obtain ⟨ho1, ho2, ⟨no1, no2, no3, no4, no5⟩, ho4⟩ := ho
  obtain ⟨ob, hob1, hob2⟩ := h.tree.work ho1 ho2
  obtain ⟨ab, hab1, hab2⟩ := h.tree.node no1
  have HWD : Hid (∀ W, Fr [] w W → Calls Try.prog 73 #[pt ab] W fun e w' => e = .returned (.int .i64 (t.word (t.wk o).at_)) ∧ W = w') := Lib.hid fun W hW => nd_word _ _ ab W (hW.keep hab2 (by simp)) no4 no5
  have HWW : Hid (∀ W s, Fr [] w W → Calls Try.prog 74 #[pt ob, .int .i64 s] W fun e w' => e = .returned (.int .u64 (packW s o)) ∧ W = w') := Lib.hid fun W s hW => wk_word A ob _ _ s W (hW.keep hob2 (by simp))
  obtain ⟨WD, hWD⟩ : ∃ x, x = t.word (t.wk o).at_ := ⟨_, rfl⟩
  obtain ⟨ST, hST⟩ : ∃ x, x = (t.wk o).state := ⟨_, rfl⟩
  rw [← hWD] at HWD
  rw [← hWD, ← hST]
  have HCS : Hid (∀ W, Fr [] w W → Calls Try.prog 72 #[pt A.mb, .int .i64 WD, .int .u64 (packW ST o), .int .u64 (packW 0 o)] W fun e w' => e = .returned (.tuple #[.int .u64 (t.ms.at WD), .bool (t.ms.casB WD (packW ST o))]) ∧ Cf X w' A a (t.cas WD (packW ST o) (packW 0 o)) c N ∧ Fr A.foot w w') := Lib.hid fun W hW => ((h.tree.keep0 hW).casd hl hn _ _ _).mono fun e w' ⟨he, ht, hf⟩ =>
    ⟨he, (h.keep0 hW).treed0 hf ht, (hW.mono (by simp)).trans hf (fun x hx => Or.inl hx)⟩
  obtain ⟨WAS, hWAS⟩ : ∃ x, x = t.ms.at WD := ⟨_, rfl⟩
  obtain ⟨OK, hOK⟩ : ∃ x, x = t.ms.casB WD (packW ST o) := ⟨_, rfl⟩
  obtain ⟨t1, ht1⟩ : ∃ t1, t1 = t.cas WD (packW ST o) (packW 0 o) := ⟨_, rfl⟩
  rw [← hWAS, ← hOK, ← ht1] at HCS
  rw [← ht1]
  have hrunq : c.run t .look = c.run (t1.done o) .look := by rw [ht1]; rfl
  rw [hrunq]
  have HT1 : Hid (t1.ns.length = t.ns.length ∧ t1.ws.length ≤ 1000000000 ∧ 1 ≤ o ∧ o ≤ 1000000000) := Lib.hid (by rw [ht1]; exact ⟨rfl, hws, ho1, by omega⟩)
  have HRUN : Hid (∀ W, Cf X W A a (t1.done o) c N → Iv X w W → Calls Try.prog 78 #[pt a.wb] W (Post X W A a kd N (t1.done o) (c.run (t1.done o) .look))) := Lib.hid fun W hW hi => run_look hW hk
  have HIV := Lib.hid (show ∀ W, Fr A.foot w W → Iv X w W from fun W hW => h.tree.iv hW)
  rw [hob1] at h1
  have H0 := Lib.hid h0
  have H1 := Lib.hid h1
  have H3 := Lib.hid h3
  have HW := Lib.hid hob2
  have v0 := h0.cell
  have v1 := h1.cell
  obtain ⟨_, y1, _, y3, _, _, _⟩ := wk_cells hob2
  rw [hab1] at y3
  rw [← hST] at y1
  have HST := Lib.hid hST
  have HAB := Lib.hid hab1
  obtain ⟨q0, _⟩ := tree_cells h.tree.toTreeB
  clear h h0 h1 h3 hl hn ho1 ho2 no1 no2 no3 no4 no5 ho4 hob1 hob2 hab1 hab2 ht1 hWD hST hWAS hOK hrunq
  go_enter Try.func91, Try.ntmps91
  go_wp2_with fail
  go_region_held3 (fun W => W.cell? ⟨p0, 0, none⟩ = some (pt A.tb) ∧ W.cell? ⟨p1, 0, none⟩ = some (pt ob) ∧ W.cell? ⟨A.tb, 0, none⟩ = some (pt A.mb) ∧ W.cell? ⟨ob, 3, none⟩ = some (pt ab) ∧ W.cell? ⟨ob, 1, none⟩ = some (.int .i64 ST)) (go_keep)
    (first
      | (go_at_call 73; refine (HWD.out _ (Fr.refl [] w).drew).mono ?_; rintro e w2 ⟨rfl, rfl⟩)
      | (go_at_call 74; refine (HWW.out _ _ (Fr.refl [] w).drew).mono ?_; rintro e w2 ⟨rfl, rfl⟩)
      | (go_at_call 72; refine (HCS.out _ (Fr.refl [] w).drew).mono ?_; rintro e w4 ⟨rfl, hc4, hf4⟩
         have HC4 := Lib.hid hc4
         have HF4 := Lib.hid hf4
         have hi := HIV.out _ hf4
         have v0 := (H0.out.keep hi).cell
         have v1 := (H1.out.keep hi).cell
         obtain ⟨y0, y1, _, y3, _, _, _⟩ := wk_cells (HW.out.keepI hi)
         rw [HAB.out] at y3
         rw [← HST.out] at y1
         obtain ⟨q0, q1, q2, q3, _⟩ := tree_cells hc4.tree.toTreeB
         clear hc4 hf4 hi))
  have hd := MapG.del KI (HC4.out.tree.map.keep (Fr.refl [] w4).drew (by simp)) wk_map (e := (o : Int)) (KI_ok (by have := HT1.out; omega) (by have := HT1.out; omega)) 0
  obtain ⟨w5, hdl, hm5, hf5⟩ := hd
  have htd := (HC4.out.tree.keep0 (Fr.refl [] w4).drew).doned HT1.out.2.2.1 hm5 hf5
  have hc5 := (HC4.out.keep0 (Fr.refl [] w4).drew).treed0 htd.2 htd.1
  have HC5 := Lib.hid hc5
  have HF5 := Lib.hid (HF4.out.trans (T := A.foot) (((Fr.refl A.foot w4).drew).trans htd.2 (fun x hx => Or.inl hx)) (fun x hx => Or.inl hx))
  have v3 := (H3.out.keep (HIV.out _ HF5.out)).cell
  
  simp only [intD] at hdl
  clear hm5 hf5 htd hc5
  go_wp2_with fail
  go_region
  go_wp2_with (go_at_call 78; refine (HRUN.out _ HC5.out (HIV.out _ HF5.out)).mono ?_; rintro e w9 hp9; obtain ⟨V, rfl, HRR⟩ := (hp9.treed HF5.out).ret; clear hp9)
  go_ret
  exact HRR.out

end Go.Proofs.Ytmhiolhgofackaa
namespace Go.Proofs.Ytmhiolhgofackaa
open Go.RowKit
set_option linter.unusedVariables false
set_option linter.unusedSimpArgs false

def Cl.start (c : Cl) : Cl := { c with path := [⟨2, false, 0⟩] }
set_option maxHeartbeats 4000000 in
theorem bt_begin {X : List Nat} {w : World} {A : TA} {a : CA} {t : Tr} {c : Cl} {N : Value} {kd : Kd} (h : Cf X w A a t c N) (hk : c.kd = kd) (hkd : kd = .ins ∨ kd = .rem) (hno : NdOk t 2) :
    Calls Try.prog 50 #[pt a.wb] w (Post X w A a kd N t (c.start, some (.desc (t.toward 2 c.key) .way))) := by
  subst hk
  have hway := h.call.way hkd
  have hne := hway.ne
  obtain ⟨d0, d1, d2, d3, df⟩ := way_cells hway
  obtain ⟨w1, hw1⟩ : ∃ w1, w1 = w.setCell ⟨a.wb, 2, none⟩ (.slice none 0 0) := ⟨_, rfl⟩
  have hpa : Passed w A a c.key (leafV a c.kd .way) [] w1 := by
    rw [hw1]
    refine ⟨.slice none 0 0, ⟨by simpa using set_block hway.blk 2 (.slice none 0 0), ⟨rfl, Or.inl ⟨rfl, rfl⟩⟩⟩, (Fr.refl _ w).setCell (Or.inl (by simp [WayAt.foot])) _, fun k hk => by cases hk⟩
  obtain ⟨pv, hc1, _, hf1, hx1⟩ := h.passed hkd rfl hpa
  obtain ⟨a1, ha1⟩ : ∃ a1 : CA, a1 = { a with pv := pv } := ⟨_, rfl⟩
  rw [← ha1] at hc1 hx1
  have HA1 : Hid (∃ pv, a1 = { a with pv := pv }) := Lib.hid ⟨pv, ha1⟩
  have hwb : a1.wb = a.wb := by rw [ha1]
  have hlv : ∀ kd m, leafV a1 kd m = leafV a kd m := fun kd m => by rw [ha1]; rfl
  have hnp : A.np 2 = pt (A.nb.getD 2 0) := rfl
  have HPS : Hid (∀ W, Fr [] w1 W → Calls Try.prog 71 #[pt a.wb, pt (A.nb.getD 2 0)] W fun e w' => ∃ a', (∃ pv, a' = { a1 with pv := pv }) ∧ e = .returned (t.toward 2 c.key).agg ∧ Cf X w' A a' t c.start N ∧ Fr (a1.foot c.kd) w1 w' ∧ ∀ x ∈ Both A a' c.kd, x ∈ Both A a1 c.kd ∨ w1.heap.size ≤ x) := Lib.hid fun W hW => by
    have := tow_way (hc1.keep0 hW) (kd := c.kd) rfl hkd 2 hno (by simp)
    rw [hwb] at this
    exact this.mono fun e w' ⟨a', k1, k2, k3, k4, k5, k6⟩ => ⟨a', k1, k2, k3, (hW.mono (by simp)).trans k5 (fun x hx => Or.inl hx), fun x hx => (k6 x hx).imp id (fun h => Nat.le_trans hW.size h)⟩
  have HDE : Hid (∀ W a' W', (∃ pv, a' = { a1 with pv := pv }) → Cf X W A a' t c.start N → Fr [] W W' → Calls Try.prog 45 #[pt A.tb, (t.toward 2 c.key).agg, .func (.func 71) #[pt a.wb] #[], leafV a c.kd .way] W' fun e w' => Post X W A a' c.kd N t (c.start, some (.desc (t.toward 2 c.key) .way)) e w' ∧ Fr [] W w') := Lib.hid (by
    rintro W a' W' ⟨pv', rfl⟩ hW hf
    have := bt_desc0 (a := { a1 with pv := pv' }) (hW.keep0 hf) (kd := c.kd) rfl (t.toward 2 c.key) .way
    have e1 : towV { a1 with pv := pv' } .way = .func (.func 71) #[pt a.wb] #[] := by rw [← hwb]; rfl
    have e2 : leafV { a1 with pv := pv' } c.kd .way = leafV a c.kd .way := by rw [← hlv]; rfl
    rw [e1, e2] at this
    exact this.mono fun e w' hp => ⟨hp.1.after0 hf, (hf.trans (T := []) hp.2 (by simp))⟩)
  have HWC : Hid (∀ W a', (∃ pv, a' = { a1 with pv := pv }) → Cf X W A a' t c.start N → W.cell? ⟨a.wb, 0, none⟩ = some (pt A.tb) ∧ W.cell? ⟨a.wb, 3, none⟩ = some (leafV a c.kd .way) ∧ W.cell? ⟨A.tb, 2, none⟩ = some (pt (A.nb.getD 2 0))) := Lib.hid (by
    rintro W a' ⟨pv', rfl⟩ hW
    obtain ⟨x0, _, _, x3, _⟩ := way_cells (hW.call.way hkd)
    obtain ⟨_, _, y2, _⟩ := tree_cells hW.tree.toTreeB
    rw [hW.tree.top, hnp] at y2
    have e2 : leafV { a1 with pv := pv' } c.start.kd .way = leafV a c.kd .way := by rw [← hlv]; rfl
    rw [e2] at x3
    exact ⟨by rw [← hwb]; exact x0, by rw [← hwb]; exact x3, y2⟩)
  have hwc1 := hc1.call.way hkd
  obtain ⟨x0, _, _, x3, _⟩ := way_cells hwc1
  obtain ⟨_, _, y2, _⟩ := tree_cells hc1.tree.toTreeB
  rw [hc1.tree.top, hnp] at y2
  rw [hwb] at x0 x3
  rw [hlv] at x3
  have HLF : Hid (∀ W, Fr (Both A a c.kd) w W → Iv X w W) := Lib.hid fun W hW => h.iv hW
  obtain ⟨BR, hBR⟩ : ∃ x, x = t.toward 2 c.key := ⟨_, rfl⟩
  rw [← hBR] at HPS HDE ⊢
  obtain ⟨f, x, y, hlf⟩ := leafV.form a c.kd .way
  dsimp only at x3
  rw [hlf] at HDE HWC x3 d3
  have HF1 := Lib.hid hf1
  have HX1 := Lib.hid hx1
  have HW1 := Lib.hid hw1
  obtain ⟨bc, bf⟩ := BR
  unfold Br.agg at HPS HDE
  dsimp only at HPS HDE
  clear h hway hne hpa hc1 hf1 hx1 ha1 hwb hlv hnp hwc1 hBR hlf hno hkd hw1 d0 d1 d3
  go_enter Try.func50, Try.ntmps50
  go_upto_region 2 with fail
  rw [← HW1.out]
  go_region_held3 (fun W => W.cell? ⟨a.wb, 0, none⟩ = some (pt A.tb) ∧ W.cell? ⟨a.wb, 3, none⟩ = some (.func f x y) ∧ W.cell? ⟨A.tb, 2, none⟩ = some (pt (A.nb.getD 2 0))) (go_keep)
    (first
      | (go_at_call 71; refine (HPS.out _ (Fr.refl [] w1).drew).mono ?_; rintro e w2 ⟨a', ha', rfl, hc2, hf2, hx2⟩
         have HC2 := Lib.hid hc2
         have HA2 := Lib.hid ha'
         have HF2 := Lib.hid hf2
         have HX2 := Lib.hid hx2
         obtain ⟨x0, x3, y2⟩ := HWC.out _ _ ha' hc2
         clear hc2 ha' hf2 hx2)
      | (go_at_call 45; refine (HDE.out _ _ _ HA2.out HC2.out (by first | exact Fr.refl [] _ | exact (Fr.refl [] _).drew)).mono ?_; rintro e w4 ⟨hp2, hf4⟩
         obtain ⟨x0, x3, y2⟩ := HWC.out _ _ HA2.out (HC2.out.keep0 hf4)
         have hpp := (hp2.trans (Ext.refl A) HA2.out (HF2.out.mono (fun k hk => Or.inl (List.mem_append_right _ hk))) HX2.out).trans (Ext.refl A) HA1.out HF1.out HX1.out
         obtain ⟨V, rfl, HRR⟩ := hpp.ret
         clear hp2 hf4 hpp))
  all_goals go_wp2
  all_goals go_ret
  all_goals exact HRR.out

theorem Cf.setFull {X : List Nat} {w w' : World} {A : TA} {a : CA} {t : Tr} {c : Cl} {N : Value} (h : Cf X w A a t c N) (hk : c.kd = .ins) (F : Bool) (hf : Fr [a.b5] w w') (hb : w'.heap[a.b5]? = some (.cells #[.bool F] 4 (0, 0))) : Cf X w' A a t { c with full := F } N := by
  have h5 := h.call.full hk
  have hi : Iv X w w' := hf.iv (mut_one h5 (imm_ty (by decide) (by decide)))
  have ne : ∀ k cur T f, w.heap[k]? = some (.cells cur T f) → T ≠ 4 → k ∉ [a.b5] := by
    intro k cur T f hkk hT hm
    simp only [List.mem_singleton] at hm
    subst hm
    rw [hkk] at h5; simp only [Option.some.injEq, Obj.cells.injEq] at h5
    exact hT h5.2.1
  refine ⟨h.tree.keep hf hi (fun k hk' hm => ?_), ⟨h.call.ctx.keep hi, hf.keep h.call.cbk (ne _ _ _ _ h.call.cbk (by decide)), fun e => ?_, fun _ => hb, fun e => ?_⟩, fun x hx => Nat.lt_of_lt_of_le (h.xs x hx) hf.size⟩
  · simp only [List.mem_singleton] at hm
    subst hm
    exact h.call.sep h.tree _ (by rw [hk]; simp [CA.foot]) hk'
  · obtain ⟨h1, h2⟩ := h.call.way e
    refine ⟨hf.keep h1 (ne _ _ _ _ h1 (by decide)), ownsRow_fr hf h2 (fun k hk => ?_)⟩
    rcases h2.2 with ⟨hv, _⟩ | ⟨g, cap, cur, hv, _, hh, _⟩
    · rw [hv] at hk; cases hk
    · rw [hv] at hk; cases hk
      exact ne _ _ _ _ hh (by decide)
  · dsimp only at e; rw [hk] at e; cases e
theorem CA.b5_in (a : CA) : a.b5 ∈ a.foot .ins := by simp [CA.foot]
set_option maxHeartbeats 4000000 in
theorem step_beg {X : List Nat} {w : World} {A : TA} {a : CA} {t : Tr} {c : Cl} {N : Value} (h : Cf X w A a t c N) (hk : c.kd = .ins) (hno : NdOk t 2) (hl : t.ms.c.length ≤ 65536) (hn : t.ms.n ≤ 1000000000000) (hd : DescOk t ({ c with full := !t.room, path := [⟨2, false, 0⟩] } : Cl) (t.kid (t.toward 2 c.key)) .way) :
    Calls Try.prog 48 #[pt a.b0, pt a.b5, pt a.b4] w (Post X w A a .ins N (t.ask (t.toward 2 c.key).cell) (({ c with full := !t.room, path := [⟨2, false, 0⟩] } : Cl).desc t (t.kid (t.toward 2 c.key)) .way)) := by
  have HRM : Hid (Calls Try.prog 49 #[pt A.tb] w fun e w' => e = .returned (.bool t.room) ∧ w = w') := Lib.hid (nd_room A t w h.tree hl)
  obtain ⟨R, hR⟩ : ∃ R, R = t.room := ⟨_, rfl⟩
  rw [← hR] at HRM hd ⊢
  have h5 := h.call.full hk
  obtain ⟨w1, hw1⟩ : ∃ w1, w1 = w.setCell ⟨a.b5, 0, none⟩ (.bool (!R)) := ⟨_, rfl⟩
  have hf1 : Fr [a.b5] w w1 := by rw [hw1]; exact (Fr.refl _ w).setCell (Or.inl (by simp)) _
  have hc1 := h.setFull hk (!R) hf1 (by rw [hw1]; simpa using set_block h5 0 (.bool (!R)))
  obtain ⟨c1, hc1e⟩ : ∃ c1 : Cl, c1 = { c with full := !R } := ⟨_, rfl⟩
  rw [← hc1e] at hc1
  have hk1 : c1.kd = .ins := by rw [hc1e]; exact hk
  have hke : c1.key = c.key := by rw [hc1e]
  have hst : ({ c with full := !R, path := [⟨2, false, 0⟩] } : Cl) = c1.start := by rw [hc1e]; rfl
  rw [hst] at hd ⊢
  rw [← hke] at hd ⊢
  have hkd1 : c1.start.kd = .ins := hk1
  have HBG : Hid (Calls Try.prog 50 #[pt a.wb] w1 fun e w' => ∃ A' a' p0 p1 p2 p3, e = .returned (.func (.func 68) #[] #[pt p0, pt p1, pt p2, pt p3]) ∧ (∀ W, Fr [] w' W → Calls Try.prog 68 #[pt p0, pt p1, pt p2, pt p3] W (Post X w A a .ins N (t.ask (t.toward 2 c1.key).cell) (c1.start.desc t (t.kid (t.toward 2 c1.key)) .way)))) := Lib.hid ((bt_begin hc1 hk1 (Or.inl rfl) hno).mono (by
    rintro e w' ⟨A', a', V, rfl, hcf, ⟨p0, p1, p2, p3, rfl, v0, v1, v2, v3⟩, hkk, hext, ⟨pv, rfl⟩, hfr, hnx⟩
    refine ⟨A', { a with pv := pv }, p0, p1, p2, p3, rfl, fun W hW => ?_⟩
    have := desc_way_ins (hcf.keep0 hW) hkd1 (t.toward 2 c1.key) p0 p1 p2 p3 (v0.keep hW.iv0) (hW.keep v1 (by simp)) (v2.keep hW.iv0) (v3.keep hW.iv0) hl hn hd
    have hf1' : Fr (Both A a .ins) w w1 := hf1.mono (by intro k hk; simp only [List.mem_singleton] at hk; subst hk; exact Or.inl (List.mem_append_right _ a.b5_in))
    exact this.mono fun e w' hp => hp.trans hext ⟨pv, rfl⟩ ((hf1'.trans hfr (fun x hx => Or.inl hx)).trans (T := []) hW (by simp)) (fun x hx => (hnx x hx).imp id (fun h => Nat.le_trans hf1.size h))))
  have v0 := (h.call.ctx.vx (by rw [hk]; decide)).cell
  have v4 := (hc1.call.ctx.vw (Or.inl hk1)).cell
  have c5 := cell_block h5 0
  have f5 := free_block h5 0
  simp at c5
  have HW1 := Lib.hid hw1
  clear h h5 hf1 hc1 hc1e hk1 hke hst hkd1 hd hR hno hl hn hw1
  go_enter Try.func48, Try.ntmps48
  go_wp2_with (first | (go_at_call 49; refine HRM.out.mono ?_; rintro e w2 ⟨rfl, rfl⟩; refine go_stop ?_))
  unfold Stop
  go_upto_region 2 with fail
  rw [← HW1.out]
  go_wp2_with (go_at_call 50; refine HBG.out.mono ?_; rintro e w3 ⟨A', a', p0, p1, p2, p3, rfl, hds⟩; have HDS := Lib.hid hds; clear hds; refine go_stop ?_)
  unfold Stop
  go_wp2_with (go_at_call 68; refine (HDS.out _ (Fr.refl _ _)).mono ?_; rintro e w4 hp2; obtain ⟨V, rfl, HRR⟩ := hp2.ret; clear hp2)
  go_ret
  exact HRR.out
end Go.Proofs.Ytmhiolhgofackaa
