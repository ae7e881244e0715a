/- PACKAGE bst: take, drop, mark
PACKAGE bst: mark -/
import Derived.Test.YthiobdhdefimhaaBsDown
namespace Go.Proofs.Ythiobdhdefimhaa
open Go.RowKit
set_option linter.unusedVariables false
set_option linter.unusedSimpArgs false

theorem WkB.keepI {X : List Nat} {w w' : World} {A : TA} {b i : Nat} {o : Wk} (h : WkB w A b i o) (hi : Iv X w w') : WkB w' A b i o := hi.keep _ _ h wk_imm
/-- what is done at a work's nodes -/
def WkOk (t : Tr) (o : Nat) : Prop := 1 ≤ o ∧ o ≤ t.ws.length ∧ NdOk t (t.wk o).at_ ∧ (t.wk o).old < t.ns.length
set_option maxHeartbeats 4000000 in
theorem step_take {X : List Nat} {w : World} {A : TA} {a : CA} {t : Tr} {c : Cl} {N : Value} {kd : Kd} (h : Cf X w A a t c N) (hk : c.kd = kd) (o nx : Nat) (th : Th) (T : Value) (p0 p1 p2 p3 : Nat) (h0 : Va X w p0 87 (pt A.tb)) (h1 : Va X w p1 108 (A.wp o)) (h2 : Va X w p2 63 (A.np nx))
    (h3 : Va X w p3 81 T) (hT : ThAt X w A a kd T th) (hl : t.ms.c.length ≤ 65536) (hn : t.ms.n ≤ 1000000000000) (ho : WkOk t o) (hnx : nx < t.ns.length) :
    Calls Try.prog 85 #[pt p0, pt p1, pt p2, pt p3] w (Post X w A a kd N (t.turn (t.toward (t.wk o).at_ (t.wk o).key) (t.wk o).old nx) (c, some (.fin o th))) := by
  obtain ⟨ho1, ho2, ⟨no1, no2, no3, no4, no5⟩, ho4⟩ := ho
  obtain ⟨ob, hob1, hob2⟩ := h.tree.work ho1 ho2
  obtain ⟨ab, hab1, hab2⟩ := h.tree.node no1
  obtain ⟨BR, hBR⟩ : ∃ x, x = t.toward (t.wk o).at_ (t.wk o).key := ⟨_, rfl⟩
  have HTO : Hid (∀ W, Fr [] w W → Calls Try.prog 46 #[pt ab, .string (t.wk o).key] W fun e w' => e = .returned BR.agg ∧ Fr [] W w') := Lib.hid fun W hW => by rw [hBR]; exact nd_toward _ _ ab _ W (hW.keep hab2 (by simp)) no4 no5 no2 no3
  rw [← hBR]
  obtain ⟨ol, hol1, _⟩ := h.tree.node ho4
  obtain ⟨nb, hnb1, _⟩ := h.tree.node hnx
  have HTU : Hid (∀ W, Fr [] w W → Calls Try.prog 86 #[pt A.tb, BR.agg, pt ol, pt nb] W fun e w' => e = .returned (.tuple #[]) ∧ Cf X w' A a (t.turn BR (t.wk o).old nx) c N ∧ Fr A.foot w w') := Lib.hid fun W hW => by
    have := nd_turn A t BR (t.wk o).old nx W (h.tree.keep0 hW) hl hn ho4 hnx
    rw [hol1, hnb1] at this
    exact this.mono fun e w' ⟨he, ht, hf⟩ => ⟨he, (h.keep0 hW).treed0 hf ht, (hW.mono (by simp)).trans hf (fun x hx => Or.inl hx)⟩
  obtain ⟨t1, ht1⟩ : ∃ t1, t1 = t.turn BR (t.wk o).old nx := ⟨_, rfl⟩
  rw [← ht1] at HTU ⊢
  have HEN : Hid (∀ W, Cf X W A a t1 c N → Iv X w W → Calls Try.prog 87 #[pt A.tb, pt ob, T] W (Post X W A a kd N t1 (c, some (.fin o th)))) := Lib.hid fun W hW hi => by
    have := bt_end hW hk o th T (hT.keep hi)
    rw [hob1] at this
    exact this
  have HIV := Lib.hid (show ∀ W, Fr A.foot w W → Iv X w W from fun W hW => h.tree.iv hW)
  rw [hob1] at h1
  rw [hnb1] at h2
  have H0 := Lib.hid h0
  have H1 := Lib.hid h1
  have H2 := Lib.hid h2
  have H3 := Lib.hid h3
  have HW := Lib.hid hob2
  have v0 := h0.cell
  have v1 := h1.cell
  have v2 := h2.cell
  obtain ⟨_, _, y2, y3, y4, _, _⟩ := wk_cells hob2
  rw [hab1] at y3
  rw [hol1] at y4
  have HAB := Lib.hid hab1
  have HOL := Lib.hid hol1
  obtain ⟨f, x, y, hTf⟩ := Th.form hT
  subst hTf
  obtain ⟨KEY, hKEY⟩ : ∃ k, k = (t.wk o).key := ⟨_, rfl⟩
  rw [← hKEY] at HTO y2
  have HKEY := Lib.hid hKEY
  obtain ⟨bc, bf⟩ := BR
  unfold Br.agg at HTO HTU
  dsimp only at HTO HTU
  clear h h0 h1 h2 h3 hT hl hn ho1 ho2 no1 no2 no3 no4 no5 ho4 hnx hob1 hob2 hab1 hab2 hol1 hnb1 ht1 hBR hKEY
  go_enter Try.func85, Try.ntmps85
  go_wp2_with fail
  go_region_held3 (fun W => W.cell? ⟨p0, 0, none⟩ = some (pt A.tb) ∧ W.cell? ⟨p1, 0, none⟩ = some (pt ob) ∧ W.cell? ⟨p2, 0, none⟩ = some (pt nb) ∧ W.cell? ⟨ob, 2, none⟩ = some (.string KEY) ∧ W.cell? ⟨ob, 3, none⟩ = some (pt ab) ∧ W.cell? ⟨ob, 4, none⟩ = some (pt ol)) (go_keep)
    (first
      | (go_at_call 46; refine (HTO.out _ (Fr.refl [] w).drew).mono ?_; rintro e w2 ⟨rfl, hf2⟩
         have hf := (Fr.refl [] w).drew.trans hf2 (by simp)
         have HF2 := Lib.hid hf
         have hi := hf.iv0 (X := X)
         have v0 := (H0.out.keep hi).cell
         have v1 := (H1.out.keep hi).cell
         have v2 := (H2.out.keep hi).cell
         obtain ⟨_, _, y2, y3, y4, _, _⟩ := wk_cells (HW.out.keepI hi)
         rw [HAB.out] at y3
         rw [HOL.out] at y4
         rw [← HKEY.out] at y2
         clear hf hf2 hi)
      | (go_at_call 86; refine (HTU.out _ HF2.out).mono ?_; rintro e w4 ⟨rfl, hc4, hf4⟩
         have HC4 := Lib.hid hc4
         have HF4 := Lib.hid hf4
         have hi := HIV.out _ hf4
         have v0 := (H0.out.keep hi).cell
         have v1 := (H1.out.keep hi).cell
         have v2 := (H2.out.keep hi).cell
         have v3 := (H3.out.keep hi).cell
         obtain ⟨_, _, y2, y3, y4, _, _⟩ := wk_cells (HW.out.keepI hi)
         rw [HAB.out] at y3
         rw [HOL.out] at y4
         rw [← HKEY.out] at y2
         clear hc4 hf4 hi))
  all_goals go_wp2_with (go_at_call 87; refine (HEN.out _ HC4.out (HIV.out _ HF4.out)).mono ?_; rintro e w9 hp9; obtain ⟨V, rfl, HRR⟩ := (hp9.treed HF4.out).ret; clear hp9)
  all_goals go_ret
  all_goals exact HRR.out
set_option maxHeartbeats 4000000 in
theorem step_drop {X : List Nat} {w : World} {A : TA} {a : CA} {t : Tr} {c : Cl} {N : Value} {kd : Kd} (h : Cf X w A a t c N) (hk : c.kd = kd) (o : Nat) (th : Th) (T : Value) (p0 p1 p2 : Nat) (h0 : Va X w p0 87 (pt A.tb)) (h1 : Va X w p1 108 (A.wp o))
    (h3 : Va X w p2 81 T) (hT : ThAt X w A a kd T th) (hl : t.ms.c.length ≤ 65536) (hn : t.ms.n ≤ 1000000000000) (ho1 : 1 ≤ o) (ho2 : o ≤ t.ws.length) (hno : NdOk t (t.wk o).old) (hkid : t.kid (t.beside (t.wk o).old (t.wk o).key) < t.ns.length) :
    Calls Try.prog 97 #[pt p0, pt p1, pt p2] w (Post X w A a kd N (t.ask (t.beside (t.wk o).old (t.wk o).key).cell) (c, some (.take o (t.kid (t.beside (t.wk o).old (t.wk o).key)) th))) := by
  obtain ⟨no1, no2, no3, no4, no5⟩ := hno
  obtain ⟨ob, hob1, hob2⟩ := h.tree.work ho1 ho2
  obtain ⟨ab, hab1, hab2⟩ := h.tree.node no1
  obtain ⟨BR, hBR⟩ : ∃ x, x = t.beside (t.wk o).old (t.wk o).key := ⟨_, rfl⟩
  have HTO : Hid (∀ W, Fr [] w W → Calls Try.prog 98 #[pt ab, .string (t.wk o).key] W fun e w' => e = .returned BR.agg ∧ Fr [] W w') := Lib.hid fun W hW => by rw [hBR]; exact nd_beside _ _ ab _ W (hW.keep hab2 (by simp)) no4 no5 no2 no3
  rw [← hBR] at hkid ⊢
  have HCH : Hid (∀ W, Fr [] w W → Calls Try.prog 75 #[pt A.tb, BR.agg] W fun e w' => e = .returned (A.np (t.kid BR)) ∧ Cf X w' A a (t.ask BR.cell) c N ∧ Fr A.foot w w') := Lib.hid fun W hW => (nd_child A t BR W (h.tree.keep0 hW) hl hn hkid).mono fun e w' ⟨he, ht, hf⟩ =>
    ⟨he, (h.keep0 hW).treed0 hf ht, (hW.mono (by simp)).trans hf (fun x hx => Or.inl hx)⟩
  obtain ⟨K, hK⟩ : ∃ K, K = t.kid BR := ⟨_, rfl⟩
  obtain ⟨t1, ht1⟩ : ∃ t1, t1 = t.ask BR.cell := ⟨_, rfl⟩
  obtain ⟨nb, hnb1, _⟩ := h.tree.node hkid
  rw [hnb1] at HCH
  rw [← hK] at hnb1 ⊢
  rw [← ht1] at HCH ⊢
  have HEN : Hid (∀ W W', Cf X W A a t1 c N → Iv X w W → Fr [] W W' → Calls Try.prog 60 #[pt A.tb, pt ob, pt nb, T] W' (fun e w' => Post X W A a kd N t1 (c, some (.take o K th)) e w' ∧ Iv X W w')) := Lib.hid fun W W' hW hi hf => by
    have := bt_take (hW.keep0 hf) hk o K th T ((hT.keep hi).keep hf.iv0)
    rw [hob1, hnb1] at this
    exact this.mono fun e w' hp => ⟨hp.after0 hf, Post.iv hW (by rw [hk]; exact hp.after0 hf)⟩
  have HIV := Lib.hid (show ∀ W, Fr A.foot w W → Iv X w W from fun W hW => h.tree.iv hW)
  rw [hob1] at h1
  have H0 := Lib.hid h0
  have H1 := Lib.hid h1
  have H3 := Lib.hid h3
  have HW := Lib.hid hob2
  have v0 := h0.cell
  have v1 := h1.cell
  have v3 := h3.cell
  obtain ⟨_, _, y2, _, y4, _, _⟩ := wk_cells hob2
  rw [hab1] at y4
  have HAB := Lib.hid hab1
  obtain ⟨f, x, y, hTf⟩ := Th.form hT
  subst hTf
  obtain ⟨KEY, hKEY⟩ : ∃ k, k = (t.wk o).key := ⟨_, rfl⟩
  rw [← hKEY] at HTO y2
  have HKEY := Lib.hid hKEY
  obtain ⟨bc, bf⟩ := BR
  unfold Br.agg at HTO HCH
  dsimp only at HTO HCH
  clear h h0 h1 h3 hT hl hn ho1 ho2 no1 no2 no3 no4 no5 hkid hob1 hob2 hab1 hab2 hnb1 ht1 hBR hKEY hK
  go_enter Try.func97, Try.ntmps97
  go_wp2_with fail
  go_region_held3 (fun W => W.cell? ⟨p0, 0, none⟩ = some (pt A.tb) ∧ W.cell? ⟨p1, 0, none⟩ = some (pt ob) ∧ W.cell? ⟨p2, 0, none⟩ = some (.func f x y) ∧ W.cell? ⟨ob, 2, none⟩ = some (.string KEY) ∧ W.cell? ⟨ob, 4, none⟩ = some (pt ab)) (go_keep)
    (first
      | (go_at_call 98; refine (HTO.out _ (Fr.refl [] w).drew).mono ?_; rintro e w2 ⟨rfl, hf2⟩
         have hf := (Fr.refl [] w).drew.trans hf2 (by simp)
         have HF2 := Lib.hid hf
         have hi := hf.iv0 (X := X)
         have v0 := (H0.out.keep hi).cell
         have v1 := (H1.out.keep hi).cell
         have v3 := (H3.out.keep hi).cell
         obtain ⟨_, _, y2, _, y4, _, _⟩ := wk_cells (HW.out.keepI hi)
         rw [HAB.out] at y4
         rw [← HKEY.out] at y2
         clear hf hf2 hi)
      | (go_at_call 75; refine (HCH.out _ HF2.out).mono ?_; rintro e w4 ⟨rfl, hc4, hf4⟩
         have HC4 := Lib.hid hc4
         have HF4 := Lib.hid hf4
         have hi := HIV.out _ hf4
         have HI4 := Lib.hid hi
         have v0 := (H0.out.keep hi).cell
         have v1 := (H1.out.keep hi).cell
         have v3 := (H3.out.keep hi).cell
         obtain ⟨_, _, y2, _, y4, _, _⟩ := wk_cells (HW.out.keepI hi)
         rw [HAB.out] at y4
         rw [← HKEY.out] at y2
         clear hc4 hf4 hi)
      | (go_at_call 60; refine (HEN.out _ _ HC4.out HI4.out (by first | exact Fr.refl [] _ | exact (Fr.refl [] _).drew)).mono ?_; rintro e w9 ⟨hp9, hi9⟩
         have hi := HI4.out.trans hi9
         have v0 := (H0.out.keep hi).cell
         have v1 := (H1.out.keep hi).cell
         have v3 := (H3.out.keep hi).cell
         obtain ⟨_, _, y2, _, y4, _, _⟩ := wk_cells (HW.out.keepI hi)
         rw [HAB.out] at y4
         rw [← HKEY.out] at y2
         obtain ⟨V, rfl, HRR⟩ := (hp9.treed HF4.out).ret
         clear hp9 hi9 hi))
  all_goals go_wp2
  all_goals go_ret
  all_goals exact HRR.out
end Go.Proofs.Ythiobdhdefimhaa
namespace Go.Proofs.Ythiobdhdefimhaa
open Go.RowKit
set_option linter.unusedVariables false
set_option linter.unusedSimpArgs false

set_option maxHeartbeats 4000000 in
theorem step_mark {X : List Nat} {w : World} {A : TA} {a : CA} {t : Tr} {c : Cl} {N : Value} {kd : Kd} (h : Cf X w A a t c N) (hk : c.kd = kd) (o : Nat) (th fl : Th) (T F : Value) (p0 p1 p2 p3 : Nat) (h0 : Va X w p0 87 (pt A.tb)) (h1 : Va X w p1 108 (A.wp o))
    (h2 : Va X w p2 81 T) (h3 : Va X w p3 81 F) (hT : ThAt X w A a kd T th) (hF : ThAt X w A a kd F fl) (hl : t.ms.c.length ≤ 65536) (hn : t.ms.n ≤ 1000000000000) (ho1 : 1 ≤ o) (ho2 : o ≤ t.ws.length) (hno : NdOk t (t.wk o).old) :
    Calls Try.prog 88 #[pt p1, pt p0, pt p2, pt p3] w (Post X w A a kd N (t.cas (t.word (t.wk o).old) (t.wk o).seen (packW 3 o)) (c, some (if t.ms.casB (t.word (t.wk o).old) (t.wk o).seen || t.ms.at (t.word (t.wk o).old) == packW 3 o then .drop o th else .fin o fl))) := by
  obtain ⟨no1, no2, no3, no4, no5⟩ := hno
  obtain ⟨ob, hob1, hob2⟩ := h.tree.work ho1 ho2
  obtain ⟨ab, hab1, hab2⟩ := h.tree.node no1
  have HWD : Hid (∀ W, Fr [] w W → Calls Try.prog 79 #[pt ab] W fun e w' => e = .returned (.int .i64 (t.word (t.wk o).old)) ∧ W = w') := Lib.hid fun W hW => nd_word _ _ ab W (hW.keep hab2 (by simp)) no4 no5
  have HWW : Hid (∀ W, Fr [] w W → Calls Try.prog 80 #[pt ob, .int .i64 3] W fun e w' => e = .returned (.int .u64 (packW 3 o)) ∧ W = w') := Lib.hid fun W hW => wk_word A ob _ _ 3 W (hW.keep hob2 (by simp))
  obtain ⟨WD, hWD⟩ : ∃ x, x = t.word (t.wk o).old := ⟨_, rfl⟩
  obtain ⟨SEEN, hSEEN⟩ : ∃ x, x = (t.wk o).seen := ⟨_, rfl⟩
  obtain ⟨GO, hGO⟩ : ∃ x, x = packW 3 o := ⟨_, rfl⟩
  rw [← hWD] at HWD
  rw [← hGO] at HWW
  rw [← hWD, ← hSEEN, ← hGO]
  have HCS : Hid (∀ W, Fr [] w W → Calls Try.prog 78 #[pt A.mb, .int .i64 WD, .int .u64 SEEN, .int .u64 GO] W fun e w' => e = .returned (.tuple #[.int .u64 (t.ms.at WD), .bool (t.ms.casB WD SEEN)]) ∧ Cf X w' A a (t.cas WD SEEN GO) c N ∧ Fr A.foot w w') := Lib.hid fun W hW => ((h.tree.keep0 hW).casd hl hn _ _ _).mono fun e w' ⟨he, ht, hf⟩ =>
    ⟨he, (h.keep0 hW).treed0 hf ht, (hW.mono (by simp)).trans hf (fun x hx => Or.inl hx)⟩
  obtain ⟨WAS, hWAS⟩ : ∃ x, x = t.ms.at WD := ⟨_, rfl⟩
  obtain ⟨OK, hOK⟩ : ∃ x, x = t.ms.casB WD SEEN := ⟨_, rfl⟩
  obtain ⟨t1, ht1⟩ : ∃ t1, t1 = t.cas WD SEEN GO := ⟨_, rfl⟩
  rw [← hWAS, ← hOK, ← ht1] at HCS
  rw [← hWAS, ← hOK, ← ht1]
  have HDR : Hid (∀ W, Cf X W A a t1 c N → Iv X w W → Calls Try.prog 89 #[pt A.tb, pt ob, T] W (Post X W A a kd N t1 (c, some (.drop o th)))) := Lib.hid fun W hW hi => by
    have := bt_drop hW hk o th T (hT.keep hi)
    rw [hob1] at this
    exact this
  have HEN : Hid (∀ W, Cf X W A a t1 c N → Iv X w W → Calls Try.prog 87 #[pt A.tb, pt ob, F] W (Post X W A a kd N t1 (c, some (.fin o fl)))) := Lib.hid fun W hW hi => by
    have := bt_end hW hk o fl F (hF.keep hi)
    rw [hob1] at this
    exact this
  have HIV := Lib.hid (show ∀ W, Fr A.foot w W → Iv X w W from fun W hW => h.tree.iv hW)
  rw [hob1] at h1
  have H0 := Lib.hid h0
  have H1 := Lib.hid h1
  have H2 := Lib.hid h2
  have H3 := Lib.hid h3
  have HW := Lib.hid hob2
  have v0 := h0.cell
  have v1 := h1.cell
  obtain ⟨_, _, _, _, y4, _, y6⟩ := wk_cells hob2
  rw [hab1] at y4
  rw [← hSEEN] at y6
  have HSE := Lib.hid hSEEN
  have HAB := Lib.hid hab1
  obtain ⟨q0, _⟩ := tree_cells h.tree.toTreeB
  obtain ⟨f, x, y, hTf⟩ := Th.form hT
  obtain ⟨f', x', y', hFf⟩ := Th.form hF
  subst hTf
  subst hFf
  have hcase : (OK || WAS == GO) = true ∧ (OK = true ∨ (OK = false ∧ (WAS == GO) = true)) ∨ (OK || WAS == GO) = false ∧ OK = false ∧ (WAS == GO) = false := by
    cases OK <;> cases (WAS == GO) <;> simp
  clear h h0 h1 h2 h3 hT hF hl hn ho1 ho2 no1 no2 no3 no4 no5 hob1 hob2 hab1 hab2 ht1 hWD hSEEN hGO hWAS hOK
  rcases hcase with ⟨hc, hc2⟩ | ⟨hc, rfl, tq⟩
  · rw [hc, if_pos rfl]
    rcases hc2 with rfl | ⟨rfl, tq⟩
    all_goals
      clear hc
      go_enter Try.func88, Try.ntmps88
      go_wp2_with (go_at_call 80; refine (HWW.out _ (Fr.refl _ _)).mono ?_; rintro e w2 ⟨rfl, rfl⟩)
      go_region_held3 (fun W => W.cell? ⟨p0, 0, none⟩ = some (pt A.tb) ∧ W.cell? ⟨p1, 0, none⟩ = some (pt ob) ∧ W.cell? ⟨A.tb, 0, none⟩ = some (pt A.mb) ∧ W.cell? ⟨ob, 4, none⟩ = some (pt ab) ∧ W.cell? ⟨ob, 6, none⟩ = some (.int .u64 SEEN)) (go_keep)
        (first
          | (go_at_call 79; refine (HWD.out _ (Fr.refl [] w).drew).mono ?_; rintro e w2 ⟨rfl, rfl⟩)
          | (go_at_call 78; refine (HCS.out _ (Fr.refl [] w).drew).mono ?_; rintro e w4 ⟨rfl, hc4, hf4⟩
             have HC4 := Lib.hid hc4
             have HF4 := Lib.hid hf4
             have hi := HIV.out _ hf4
             have v0 := (H0.out.keep hi).cell
             have v1 := (H1.out.keep hi).cell
             have v2 := (H2.out.keep hi).cell
             obtain ⟨_, _, _, _, y4, _, y6⟩ := wk_cells (HW.out.keepI hi)
             rw [HAB.out] at y4
             rw [← HSE.out] at y6
             obtain ⟨q0, _⟩ := tree_cells hc4.tree.toTreeB
             clear hc4 hf4 hi))
      all_goals go_wp2_with (go_at_call 89; refine (HDR.out _ HC4.out (HIV.out _ HF4.out)).mono ?_; rintro e w9 hp9; obtain ⟨V, rfl, HRR⟩ := (hp9.treed HF4.out).ret; clear hp9)
      all_goals go_ret
      all_goals exact HRR.out
  · rw [hc, if_neg Bool.false_ne_true]
    clear hc
    go_enter Try.func88, Try.ntmps88
    go_wp2_with (go_at_call 80; refine (HWW.out _ (Fr.refl _ _)).mono ?_; rintro e w2 ⟨rfl, rfl⟩)
    go_region_held3 (fun W => W.cell? ⟨p0, 0, none⟩ = some (pt A.tb) ∧ W.cell? ⟨p1, 0, none⟩ = some (pt ob) ∧ W.cell? ⟨A.tb, 0, none⟩ = some (pt A.mb) ∧ W.cell? ⟨ob, 4, none⟩ = some (pt ab) ∧ W.cell? ⟨ob, 6, none⟩ = some (.int .u64 SEEN)) (go_keep)
      (first
        | (go_at_call 79; refine (HWD.out _ (Fr.refl [] w).drew).mono ?_; rintro e w2 ⟨rfl, rfl⟩)
        | (go_at_call 78; refine (HCS.out _ (Fr.refl [] w).drew).mono ?_; rintro e w4 ⟨rfl, hc4, hf4⟩
           have HC4 := Lib.hid hc4
           have HF4 := Lib.hid hf4
           have hi := HIV.out _ hf4
           have v0 := (H0.out.keep hi).cell
           have v1 := (H1.out.keep hi).cell
           have v3 := (H3.out.keep hi).cell
           obtain ⟨_, _, _, _, y4, _, y6⟩ := wk_cells (HW.out.keepI hi)
           rw [HAB.out] at y4
           rw [← HSE.out] at y6
           obtain ⟨q0, _⟩ := tree_cells hc4.tree.toTreeB
           clear hc4 hf4 hi))
    all_goals go_wp2_with (go_at_call 87; refine (HEN.out _ HC4.out (HIV.out _ HF4.out)).mono ?_; rintro e w9 hp9; obtain ⟨V, rfl, HRR⟩ := (hp9.treed HF4.out).ret; clear hp9)
    all_goals go_ret
    all_goals exact HRR.out
end Go.Proofs.Ythiobdhdefimhaa
