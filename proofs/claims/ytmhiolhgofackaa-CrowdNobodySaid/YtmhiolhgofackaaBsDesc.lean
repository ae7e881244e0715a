/- PACKAGE bst: a step down (written by bst_desc.py) -/
import Derived.Test.YtmhiolhgofackaaBsLeaf
namespace Go.Proofs.Ytmhiolhgofackaa
open Go.RowKit
set_option linter.unusedVariables false
set_option linter.unusedSimpArgs false

/-- what a leaf's function wants -/
def LeafOk (t : Tr) (c : Cl) (l : Nat) (m : Md) : Prop := l < t.ns.length ∧ c.path.length ≤ 1000000000 ∧ (c.kd = .ins → c.path ≠ []) ∧ (c.kd = .rem → (t.nd l).has c.key = true → 2 ≤ c.path.length) ∧
  (c.kd = .sek → m = .seek → ((t.nd l).above c.key || (t.nd l).has c.key) = false → ∃ p, c.over = some p ∧ NdOk t p)
def DescOk (t : Tr) (c : Cl) (n : Nat) (m : Md) : Prop := n < t.ns.length ∧ c.path.length ≤ 1000000000 ∧ ((t.nd n).inner = true → NdOk t n) ∧ ((t.nd n).inner = false → LeafOk t c n m)
theorem NdOk.ask {t : Tr} {c : Int} {p : Nat} : NdOk (t.ask c) p ↔ NdOk t p := Iff.rfl
theorem LeafOk.ask {t : Tr} {c : Cl} {l : Nat} {m : Md} {x : Int} : LeafOk (t.ask x) c l m ↔ LeafOk t c l m := Iff.rfl
/-- where the next step stands, behind a leaf's function -/
theorem Post.both {X : List Nat} {w w1 w' : World} {A : TA} {a a1 : CA} {kd : Kd} {N : Value} {t' : Tr} {o : Out} {e : Ending} (h : Post X w1 A a1 kd N t' o e w') (ha : ∃ pv, a1 = { a with pv := pv }) (hf : Fr (Both A a kd) w w1)
    (hn : ∀ x ∈ Both A a1 kd, x ∈ Both A a kd ∨ w.heap.size ≤ x) : Post X w A a kd N t' o e w' := h.trans (Ext.refl A) ha hf hn

set_option maxHeartbeats 4000000 in
theorem desc_find {X : List Nat} {w : World} {A : TA} {a : CA} {t : Tr} {c : Cl} {N : Value} (h : Cf X w A a t c N) (hk : c.kd = .fnd) (b : Br) (p0 p1 p2 p3 : Nat) (h0 : Va X w p0 96 (pt A.tb)) (h1 : w.heap[p1]? = some (.cells #[.int .i64 b.cell, .int .u64 b.first] 105 (0, 0)))
    (h2 : Va X w p2 107 (towV a .find)) (h3 : Va X w p3 110 (leafV a .fnd .find)) (hl : t.ms.c.length ≤ 65536) (hn : t.ms.n ≤ 1000000000000) (hd : DescOk t c (t.kid b) .find) :
    Calls Try.prog 68 #[pt p0, pt p1, pt p2, pt p3] w (Post X w A a .fnd N (t.ask b.cell) (c.desc (t.ask b.cell) (t.kid b) .find)) := by
  obtain ⟨hd1, hdl, hd2, hd3⟩ := hd
  have HCH : Hid (Calls Try.prog 69 #[pt A.tb, b.agg] w fun e w' => e = .returned (A.np (t.kid b)) ∧ Cf X w' A a (t.ask b.cell) c N ∧ Fr A.foot w w') := Lib.hid ((nd_child A t b w h.tree hl hn hd1).mono fun e w' ⟨he, ht, hf⟩ => ⟨he, h.treed0 hf ht, hf⟩)
  have hiv : ∀ W, Fr A.foot w W → Iv X w W := fun W hW => h.tree.iv hW
  have HIV := Lib.hid hiv
  obtain ⟨K, hK⟩ : ∃ K, K = t.kid b := ⟨_, rfl⟩
  obtain ⟨t1, ht1⟩ : ∃ t1, t1 = t.ask b.cell := ⟨_, rfl⟩
  rw [← hK] at hd1 hd2 hd3 HCH ⊢
  rw [← ht1] at HCH ⊢
  have HD2 : Hid ((t1.nd K).inner = true → NdOk t1 K) := Lib.hid (by rw [ht1]; exact hd2)
  have HD3 : Hid ((t1.nd K).inner = false → LeafOk t1 c K .find) := Lib.hid (by rw [ht1]; exact hd3)
  have HD1 : Hid (K < t1.ns.length) := Lib.hid (by rw [ht1]; exact hd1)
  have H0 := Lib.hid h0
  have H2 := Lib.hid h2
  have H3 := Lib.hid h3
  have v0 := h0.cell
  obtain ⟨b0, b1, _⟩ := cells2 h1
  unfold Br.agg at HCH
  have HDL := Lib.hid hdl
  obtain ⟨bc, bf⟩ := b
  dsimp only at *
  clear h h0 h1 h2 h3 hd1 hd2 hd3 hiv hK ht1 hdl hl hn
  unfold Cl.desc
  obtain ⟨B, hB⟩ : ∃ B, B = (t1.nd K).inner := ⟨_, rfl⟩
  have HB := Lib.hid hB
  rw [← hB] at HD2 HD3 ⊢
  clear hB
  cases B
  · rw [if_neg Bool.false_ne_true]
    have hlo := HD3.out rfl
    have HLF : Hid (∀ W W', Cf X W A a t1 c N → Fr [] W W' → Calls Try.prog 46 #[A.np K, pt a.b1, pt a.b3] W' (Post X W A a .fnd N t1 (c.leaf t1 K .find))) := Lib.hid fun W W' hW hf => (leaf_find (hW.keep0 hf) hk K hlo.1 .find).mono fun e w' hp => hp.after0 hf
    have HLO := Lib.hid hlo
    clear hlo
    go_enter Try.func68, Try.ntmps68
    go_wp2_with (go_at_call 69; refine HCH.out.mono ?_; rintro e w1 ⟨rfl, hc, hf⟩; refine go_stop ?_)
    unfold Stop
    obtain ⟨nb, hnb, hnd⟩ := hc.tree.node HD1.out
    have hlf := HLF.out _ _ hc (Fr.refl _ _)
    rw [hnb] at hlf ⊢
    obtain ⟨_, y1, _⟩ := nod_cells hnd
    rw [← HB.out] at y1
    have HF := Lib.hid hf
    have hv3 := (H3.out.keep (HIV.out _ hf)).cell
    unfold leafV fn at hv3
    simp only [List.map_cons, List.map_nil] at hv3
    have HLL := Lib.hid hlf
    clear hc hf hnb hnd hlf v0 b0 b1
    go_wp2_with (go_at_call 46; refine HLL.out.mono ?_; rintro e w2 hp2; obtain ⟨V, rfl, HRR⟩ := (hp2.treed HF.out).ret; clear hp2)
    go_ret
    exact HRR.out
  · rw [if_pos rfl]
    have hok := HD2.out rfl
    have HTW : Hid (∀ W W', Cf X W A a t1 c N → Fr [] W W' → Calls Try.prog 43 #[A.np K, pt a.b1] W' fun e w' => ∃ a', (∃ pv, a' = { a with pv := pv }) ∧ e = .returned (c.toward t1 K .find).2.agg ∧ Cf X w' A a' t1 (c.toward t1 K .find).1 N ∧ (c.toward t1 K .find).1.kd = .fnd ∧ Fr (a.foot .fnd) W w' ∧ Iv X W w' ∧ ∀ x ∈ Both A a' .fnd, x ∈ Both A a .fnd ∨ W.heap.size ≤ x) := Lib.hid fun W W' hW hf => (tow_find (hW.keep0 hf) hk K hok).mono fun e w' ⟨a', k1, k2, k3, k4, k5, k6⟩ => by
      have hfo : Fr (a.foot .fnd) W w' := (hf.mono (by simp)).trans k5 (fun x hx => Or.inl hx)
      exact ⟨a', k1, k2, k3, k4, hfo, by rw [← hk] at hfo; exact hfo.iv hW.call.mut, fun x hx => (k6 x hx).imp id (fun h => Nat.le_trans hf.size h)⟩
    have HDE : Hid (∀ W a' W' c' br, (∃ pv, a' = { a with pv := pv }) → Cf X W A a' t1 c' N → c'.kd = .fnd → Fr [] W W' → Calls Try.prog 45 #[pt A.tb, br.agg, towV a .find, leafV a .fnd .find] W' fun e w' => Post X W A a' .fnd N t1 (c', some (.desc br .find)) e w' ∧ Fr [] W w') := Lib.hid (by
      rintro W a' W' c' br ⟨pv, rfl⟩ hW hk' hf
      exact (bt_desc0 (a := { a with pv := pv }) (hW.keep0 hf) hk' br .find).mono fun e w' hp => ⟨hp.1.after0 hf, (hf.trans (T := []) hp.2 (by simp))⟩)
    obtain ⟨o, ho⟩ : ∃ o, o = c.toward t1 K .find := ⟨_, rfl⟩
    rw [← ho] at HTW ⊢
    obtain ⟨c', oc, of⟩ := o
    have HDX := Lib.hid fun (W : World) a' W' ha hc hkk hf => HDE.out W a' W' c' ⟨oc, of⟩ ha hc hkk hf
    unfold Br.agg at HTW HDX
    dsimp only at HTW HDX ⊢
    unfold leafV towV fn at HDX
    simp only [List.map_cons, List.map_nil] at HDX
    clear ho HDE hok
    go_enter Try.func68, Try.ntmps68
    go_wp2_with (go_at_call 69; refine HCH.out.mono ?_; rintro e w1 ⟨rfl, hc, hf⟩; refine go_stop ?_)
    unfold Stop
    obtain ⟨nb, hnb, hnd⟩ := hc.tree.node HD1.out
    rw [hnb] at HTW ⊢
    obtain ⟨_, y1, _⟩ := nod_cells hnd
    rw [← HB.out] at y1
    have HF := Lib.hid hf
    have HC1 := Lib.hid hc
    have H01 := Lib.hid (H0.out.keep (HIV.out _ hf))
    have H21 := Lib.hid (H2.out.keep (HIV.out _ hf))
    have H31 := Lib.hid (H3.out.keep (HIV.out _ hf))
    clear v0 b0 b1
    have v0 := H01.out.cell
    have v2 := H21.out.cell
    have v3 := H31.out.cell
    unfold towV fn at v2
    unfold leafV fn at v3
    simp only [List.map_cons, List.map_nil] at v3 v2
    clear hc hf hnb hnd
    go_wp2_with fail
    go_region_held3 (fun W => W.cell? ⟨p0, 0, none⟩ = some (pt A.tb) ∧ W.cell? ⟨p2, 0, none⟩ = some (.func (.func 43) #[] #[pt a.b1]) ∧ W.cell? ⟨p3, 0, none⟩ = some (.func (.func 46) #[] #[pt a.b1, pt a.b3])) (go_keep)
      (first
        | (go_at_call 43; refine (HTW.out _ _ HC1.out (Fr.refl [] w1).drew).mono ?_; rintro e w2 ⟨a', ha', rfl, hc2, hk2, hf2, hi2, hx2⟩
           have HC2 := Lib.hid hc2
           have HK2 := Lib.hid hk2
           have HA2 := Lib.hid ha'
           have HF2 := Lib.hid hf2
           have HX2 := Lib.hid hx2
           have HI2 := Lib.hid hi2
           have v0 := (H01.out.keep hi2).cell
           have v2 := (H21.out.keep hi2).cell
           have v3 := (H31.out.keep hi2).cell
           unfold towV fn at v2
           unfold leafV fn at v3
           simp only [List.map_cons, List.map_nil] at v3 v2
           clear hc2 hk2 ha' hf2 hi2 hx2)
        | (go_at_call 45; refine (HDX.out _ _ _ HA2.out HC2.out HK2.out (by first | exact Fr.refl [] _ | exact (Fr.refl [] _).drew)).mono ?_; rintro e w4 ⟨hp2, hf4⟩
           have hpp := Post.treed (Post.both hp2 HA2.out (HF2.out.mono (fun k hk => Or.inl (List.mem_append_right _ hk))) HX2.out) HF.out
           have hi := HI2.out.trans (hf4.iv0 (X := X))
           have v0 := (H01.out.keep hi).cell
           have v2 := (H21.out.keep hi).cell
           have v3 := (H31.out.keep hi).cell
           unfold towV fn at v2
           unfold leafV fn at v3
           simp only [List.map_cons, List.map_nil] at v3 v2
           obtain ⟨V, rfl, HRR⟩ := hpp.ret
           clear hp2 hf4 hpp hi))
    all_goals go_wp2
    all_goals go_ret
    all_goals exact HRR.out

set_option maxHeartbeats 4000000 in
theorem desc_way_ins {X : List Nat} {w : World} {A : TA} {a : CA} {t : Tr} {c : Cl} {N : Value} (h : Cf X w A a t c N) (hk : c.kd = .ins) (b : Br) (p0 p1 p2 p3 : Nat) (h0 : Va X w p0 96 (pt A.tb)) (h1 : w.heap[p1]? = some (.cells #[.int .i64 b.cell, .int .u64 b.first] 105 (0, 0)))
    (h2 : Va X w p2 107 (towV a .way)) (h3 : Va X w p3 110 (leafV a .ins .way)) (hl : t.ms.c.length ≤ 65536) (hn : t.ms.n ≤ 1000000000000) (hd : DescOk t c (t.kid b) .way) :
    Calls Try.prog 68 #[pt p0, pt p1, pt p2, pt p3] w (Post X w A a .ins N (t.ask b.cell) (c.desc (t.ask b.cell) (t.kid b) .way)) := by
  obtain ⟨hd1, hdl, hd2, hd3⟩ := hd
  have HCH : Hid (Calls Try.prog 69 #[pt A.tb, b.agg] w fun e w' => e = .returned (A.np (t.kid b)) ∧ Cf X w' A a (t.ask b.cell) c N ∧ Fr A.foot w w') := Lib.hid ((nd_child A t b w h.tree hl hn hd1).mono fun e w' ⟨he, ht, hf⟩ => ⟨he, h.treed0 hf ht, hf⟩)
  have hiv : ∀ W, Fr A.foot w W → Iv X w W := fun W hW => h.tree.iv hW
  have HIV := Lib.hid hiv
  obtain ⟨K, hK⟩ : ∃ K, K = t.kid b := ⟨_, rfl⟩
  obtain ⟨t1, ht1⟩ : ∃ t1, t1 = t.ask b.cell := ⟨_, rfl⟩
  rw [← hK] at hd1 hd2 hd3 HCH ⊢
  rw [← ht1] at HCH ⊢
  have HD2 : Hid ((t1.nd K).inner = true → NdOk t1 K) := Lib.hid (by rw [ht1]; exact hd2)
  have HD3 : Hid ((t1.nd K).inner = false → LeafOk t1 c K .way) := Lib.hid (by rw [ht1]; exact hd3)
  have HD1 : Hid (K < t1.ns.length) := Lib.hid (by rw [ht1]; exact hd1)
  have H0 := Lib.hid h0
  have H2 := Lib.hid h2
  have H3 := Lib.hid h3
  have v0 := h0.cell
  obtain ⟨b0, b1, _⟩ := cells2 h1
  unfold Br.agg at HCH
  have HDL := Lib.hid hdl
  obtain ⟨bc, bf⟩ := b
  dsimp only at *
  clear h h0 h1 h2 h3 hd1 hd2 hd3 hiv hK ht1 hdl hl hn
  unfold Cl.desc
  obtain ⟨B, hB⟩ : ∃ B, B = (t1.nd K).inner := ⟨_, rfl⟩
  have HB := Lib.hid hB
  rw [← hB] at HD2 HD3 ⊢
  clear hB
  cases B
  · rw [if_neg Bool.false_ne_true]
    have hlo := HD3.out rfl
    have HLF : Hid (∀ W W', Cf X W A a t1 c N → Fr [] W W' → Calls Try.prog 59 #[A.np K, pt a.b1, pt a.b3, pt a.b5, pt a.b4, pt a.b7] W' (Post X W A a .ins N t1 (c.leaf t1 K .way))) := Lib.hid fun W W' hW hf => (leaf_ins (hW.keep0 hf) hk K hlo.1 (hlo.2.2.1 hk) hlo.2.1 .way).mono fun e w' hp => hp.after0 hf
    have HLO := Lib.hid hlo
    clear hlo
    go_enter Try.func68, Try.ntmps68
    go_wp2_with (go_at_call 69; refine HCH.out.mono ?_; rintro e w1 ⟨rfl, hc, hf⟩; refine go_stop ?_)
    unfold Stop
    obtain ⟨nb, hnb, hnd⟩ := hc.tree.node HD1.out
    have hlf := HLF.out _ _ hc (Fr.refl _ _)
    rw [hnb] at hlf ⊢
    obtain ⟨_, y1, _⟩ := nod_cells hnd
    rw [← HB.out] at y1
    have HF := Lib.hid hf
    have hv3 := (H3.out.keep (HIV.out _ hf)).cell
    unfold leafV fn at hv3
    simp only [List.map_cons, List.map_nil] at hv3
    have HLL := Lib.hid hlf
    clear hc hf hnb hnd hlf v0 b0 b1
    go_wp2_with (go_at_call 59; refine HLL.out.mono ?_; rintro e w2 hp2; obtain ⟨V, rfl, HRR⟩ := (hp2.treed HF.out).ret; clear hp2)
    go_ret
    exact HRR.out
  · rw [if_pos rfl]
    have hok := HD2.out rfl
    have HTW : Hid (∀ W W', Cf X W A a t1 c N → Fr [] W W' → Calls Try.prog 71 #[pt a.wb, A.np K] W' fun e w' => ∃ a', (∃ pv, a' = { a with pv := pv }) ∧ e = .returned (c.toward t1 K .way).2.agg ∧ Cf X w' A a' t1 (c.toward t1 K .way).1 N ∧ (c.toward t1 K .way).1.kd = .ins ∧ Fr (a.foot .ins) W w' ∧ Iv X W w' ∧ ∀ x ∈ Both A a' .ins, x ∈ Both A a .ins ∨ W.heap.size ≤ x) := Lib.hid fun W W' hW hf => (tow_way (hW.keep0 hf) hk (Or.inl rfl) K hok HDL.out).mono fun e w' ⟨a', k1, k2, k3, k4, k5, k6⟩ => by
      have hfo : Fr (a.foot .ins) W w' := (hf.mono (by simp)).trans k5 (fun x hx => Or.inl hx)
      exact ⟨a', k1, k2, k3, k4, hfo, by rw [← hk] at hfo; exact hfo.iv hW.call.mut, fun x hx => (k6 x hx).imp id (fun h => Nat.le_trans hf.size h)⟩
    have HDE : Hid (∀ W a' W' c' br, (∃ pv, a' = { a with pv := pv }) → Cf X W A a' t1 c' N → c'.kd = .ins → Fr [] W W' → Calls Try.prog 45 #[pt A.tb, br.agg, towV a .way, leafV a .ins .way] W' fun e w' => Post X W A a' .ins N t1 (c', some (.desc br .way)) e w' ∧ Fr [] W w') := Lib.hid (by
      rintro W a' W' c' br ⟨pv, rfl⟩ hW hk' hf
      exact (bt_desc0 (a := { a with pv := pv }) (hW.keep0 hf) hk' br .way).mono fun e w' hp => ⟨hp.1.after0 hf, (hf.trans (T := []) hp.2 (by simp))⟩)
    obtain ⟨o, ho⟩ : ∃ o, o = c.toward t1 K .way := ⟨_, rfl⟩
    rw [← ho] at HTW ⊢
    obtain ⟨c', oc, of⟩ := o
    have HDX := Lib.hid fun (W : World) a' W' ha hc hkk hf => HDE.out W a' W' c' ⟨oc, of⟩ ha hc hkk hf
    unfold Br.agg at HTW HDX
    dsimp only at HTW HDX ⊢
    unfold leafV towV fn at HDX
    simp only [List.map_cons, List.map_nil] at HDX
    clear ho HDE hok
    go_enter Try.func68, Try.ntmps68
    go_wp2_with (go_at_call 69; refine HCH.out.mono ?_; rintro e w1 ⟨rfl, hc, hf⟩; refine go_stop ?_)
    unfold Stop
    obtain ⟨nb, hnb, hnd⟩ := hc.tree.node HD1.out
    rw [hnb] at HTW ⊢
    obtain ⟨_, y1, _⟩ := nod_cells hnd
    rw [← HB.out] at y1
    have HF := Lib.hid hf
    have HC1 := Lib.hid hc
    have H01 := Lib.hid (H0.out.keep (HIV.out _ hf))
    have H21 := Lib.hid (H2.out.keep (HIV.out _ hf))
    have H31 := Lib.hid (H3.out.keep (HIV.out _ hf))
    clear v0 b0 b1
    have v0 := H01.out.cell
    have v2 := H21.out.cell
    have v3 := H31.out.cell
    unfold towV at v2
    unfold leafV fn at v3
    simp only [List.map_cons, List.map_nil] at v3
    clear hc hf hnb hnd
    go_wp2_with fail
    go_region_held3 (fun W => W.cell? ⟨p0, 0, none⟩ = some (pt A.tb) ∧ W.cell? ⟨p2, 0, none⟩ = some (.func (.func 71) #[pt a.wb] #[]) ∧ W.cell? ⟨p3, 0, none⟩ = some (.func (.func 59) #[] #[pt a.b1, pt a.b3, pt a.b5, pt a.b4, pt a.b7])) (go_keep)
      (first
        | (go_at_call 71; refine (HTW.out _ _ HC1.out (Fr.refl [] w1).drew).mono ?_; rintro e w2 ⟨a', ha', rfl, hc2, hk2, hf2, hi2, hx2⟩
           have HC2 := Lib.hid hc2
           have HK2 := Lib.hid hk2
           have HA2 := Lib.hid ha'
           have HF2 := Lib.hid hf2
           have HX2 := Lib.hid hx2
           have HI2 := Lib.hid hi2
           have v0 := (H01.out.keep hi2).cell
           have v2 := (H21.out.keep hi2).cell
           have v3 := (H31.out.keep hi2).cell
           unfold towV at v2
           unfold leafV fn at v3
           simp only [List.map_cons, List.map_nil] at v3
           clear hc2 hk2 ha' hf2 hi2 hx2)
        | (go_at_call 45; refine (HDX.out _ _ _ HA2.out HC2.out HK2.out (by first | exact Fr.refl [] _ | exact (Fr.refl [] _).drew)).mono ?_; rintro e w4 ⟨hp2, hf4⟩
           have hpp := Post.treed (Post.both hp2 HA2.out (HF2.out.mono (fun k hk => Or.inl (List.mem_append_right _ hk))) HX2.out) HF.out
           have hi := HI2.out.trans (hf4.iv0 (X := X))
           have v0 := (H01.out.keep hi).cell
           have v2 := (H21.out.keep hi).cell
           have v3 := (H31.out.keep hi).cell
           unfold towV at v2
           unfold leafV fn at v3
           simp only [List.map_cons, List.map_nil] at v3
           obtain ⟨V, rfl, HRR⟩ := hpp.ret
           clear hp2 hf4 hpp hi))
    all_goals go_wp2
    all_goals go_ret
    all_goals exact HRR.out

end Go.Proofs.Ytmhiolhgofackaa
