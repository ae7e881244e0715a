/- PACKAGE bst: what is done at a leaf
PACKAGE bst: what is done at a leaf: Seek
PACKAGE bst: what is done at a leaf: Insert, Delete -/
import Derived.Test.YthiobdhdefimhaaBsHelp
namespace Go.Proofs.Ythiobdhdefimhaa
open Go.RowKit
set_option linter.unusedVariables false
set_option linter.unusedSimpArgs false

theorem NodB.keepI {X : List Nat} {w w' : World} {b p : Nat} {n : Nd} (h : NodB w b p n) (hi : Iv X w w') : NodB w' b p n := hi.keep _ _ h nod_imm
theorem Post.iv {X : List Nat} {w w' : World} {A : TA} {a : CA} {t t' : Tr} {c : Cl} {N : Value} {o : Out} {e : Ending} (h : Cf X w A a t c N) (hp : Post X w A a c.kd N t' o e w') : Iv X w w' := by
  obtain ⟨_, _, _, _, _, _, _, _, _, hf, _⟩ := hp
  exact h.iv hf
theorem Post.of_cf {X : List Nat} {w W : World} {A : TA} {a : CA} {t : Tr} {c : Cl} {N : Value} (h : Cf X w A a t c N) (hf : Fr [] w W) : Cf X W A a t c N := h.keep0 hf
/-- tell, at a world that came of w -/
theorem tell_at {X : List Nat} {w : World} {A : TA} {a : CA} {t : Tr} {c : Cl} {N : Value} (h : Cf X w A a t c N) (W : World) (hf : Fr [] w W) (r : An) : Calls Try.prog 43 #[.agg #[.bool r.ok, .string r.key, .int .u64 r.val, .int .i64 r.err], pt a.bc] W fun e w' => Post X w A a c.kd N t (c.tell r, none) e w' :=
  (bt_tell (h.keep0 hf) rfl r).mono fun e w' hp => hp.after0 hf
set_option maxHeartbeats 2000000 in
theorem leaf_find {X : List Nat} {w : World} {A : TA} {a : CA} {t : Tr} {c : Cl} {N : Value} (h : Cf X w A a t c N) (hk : c.kd = .fnd) (l : Nat) (hl : l < t.ns.length) (m : Md) :
    Calls Try.prog 65 #[A.np l, pt a.b1, pt a.b3] w (Post X w A a .fnd N t (c.leaf t l m)) := by
  obtain ⟨b, hb1, hb2⟩ := h.tree.node hl
  rw [hb1]
  have HT : Hid (∀ W r, Fr [] w W → Calls Try.prog 43 #[.agg #[.bool r.ok, .string r.key, .int .u64 r.val, .int .i64 r.err], pt a.bc] W fun e w' => Post X w A a .fnd N t (c.tell r, none) e w' ∧ Iv X w w') := Lib.hid fun W r hW => (tell_at h W hW r).mono fun e w' hp => ⟨by rw [← hk]; exact hp, Post.iv h hp⟩
  have HH : Hid (∀ W, NodB W b l (t.nd l) → Calls Try.prog 50 #[pt b, .string c.key] W fun e w' => e = .returned (.bool ((t.nd l).has c.key)) ∧ W = w') := Lib.hid fun W hW => nd_has _ l b _ W hW
  have e : c.leaf t l m = if (t.nd l).has c.key then (c.tell ⟨true, c.key, (t.nd l).val, 0⟩, none) else (c.tell ⟨false, c.key, 0, 0⟩, none) := by unfold Cl.leaf; rw [hk]
  rw [e]
  obtain ⟨B, hB⟩ : ∃ B, B = (t.nd l).has c.key := ⟨_, rfl⟩
  obtain ⟨n, hn⟩ : ∃ n, n = t.nd l := ⟨_, rfl⟩
  rw [← hB] at HH ⊢
  rw [← hn] at HH hb2 ⊢
  have HN := Lib.hid hb2
  have HVK := Lib.hid h.call.ctx.vk
  have HVT := Lib.hid h.call.ctx.vt
  have v1 := HVK.out.cell
  have v3 := HVT.out.cell
  obtain ⟨_, _, _, _, y4, _⟩ := nod_cells hb2
  clear h hb1 hb2 hB hn e
  unfold tellV fn at v3
  simp only [List.map_cons, List.map_nil] at v3
  cases B
  · rw [if_neg (by simp)]
    go_enter Try.func65, Try.ntmps65
    go_wp2_with (first | (go_at_call 50; refine (HH.out _ HN.out).mono ?_; rintro e w3 ⟨rfl, rfl⟩) | (go_at_call 43; refine (HT.out _ ⟨false, c.key, 0, 0⟩ (Fr.refl _ _)).mono ?_; rintro e w2 ⟨hp2, hi⟩; obtain ⟨V, rfl, HRR⟩ := hp2.ret; clear hp2 hi))
    go_ret
    exact HRR.out
  · rw [if_pos rfl]
    go_enter Try.func65, Try.ntmps65
    go_wp2_with (go_at_call 50; refine (HH.out _ HN.out).mono ?_; rintro e w3 ⟨rfl, rfl⟩)
    go_region_held3 (fun W => W.cell? ⟨a.b1, 0, none⟩ = some (.string c.key) ∧ W.cell? ⟨a.b3, 0, none⟩ = some (.func (.func 43) #[] #[pt a.bc]) ∧ W.cell? ⟨b, 4, none⟩ = some (.int .u64 n.val)) (go_keep)
      ((go_at_call 43; refine (HT.out _ ⟨true, c.key, n.val, 0⟩ (Fr.refl _ _).drew).mono ?_; rintro e w2 ⟨hp2, hi⟩
        obtain ⟨V, rfl, HRR⟩ := hp2.ret
        have v1 := (HVK.out.keep hi).cell
        have v3 := (HVT.out.keep hi).cell
        unfold tellV fn at v3
        simp only [List.map_cons, List.map_nil] at v3
        obtain ⟨_, _, _, _, y4, _⟩ := nod_cells (HN.out.keepI hi)
        clear hp2 hi))
    all_goals go_wp2
    all_goals go_ret
    all_goals exact HRR.out
end Go.Proofs.Ythiobdhdefimhaa
namespace Go.Proofs.Ythiobdhdefimhaa
open Go.RowKit
set_option linter.unusedVariables false
set_option linter.unusedSimpArgs false

/-- an inner node's place and cells are small -/
def NdOk (t : Tr) (p : Nat) : Prop := p < t.ns.length ∧ 2 ≤ p ∧ p ≤ 65536 ∧ 0 ≤ (t.nd p).cell ∧ (t.nd p).cell ≤ 65536
set_option maxHeartbeats 2000000 in
theorem bt_found {X : List Nat} {w : World} {A : TA} {a : CA} {t : Tr} {c : Cl} {N : Value} {kd : Kd} (h : Cf X w A a t c N) (hk : c.kd = kd) (l : Nat) (hl : l < t.ns.length) :
    Calls Try.prog 47 #[A.np l, pt a.b3] w (Post X w A a kd N t (c.found t l)) := by
  obtain ⟨b, hb1, hb2⟩ := h.tree.node hl
  rw [hb1]
  have HT : Hid (∀ W r, Fr [] w W → Calls Try.prog 43 #[.agg #[.bool r.ok, .string r.key, .int .u64 r.val, .int .i64 r.err], pt a.bc] W fun e w' => Post X w A a kd N t (c.tell r, none) e w' ∧ Iv X w w') := Lib.hid fun W r hW => (tell_at h W hW r).mono fun e w' hp => ⟨by rw [← hk]; exact hp, Post.iv h hp⟩
  unfold Cl.found
  obtain ⟨n, hn⟩ : ∃ n, n = t.nd l := ⟨_, rfl⟩
  rw [← hn] at hb2 ⊢
  have HN := Lib.hid hb2
  have HVT := Lib.hid h.call.ctx.vt
  have v3 := HVT.out.cell
  obtain ⟨_, _, y2, y3, y4, _⟩ := nod_cells hb2
  clear h hb1 hb2 hn
  unfold tellV fn at v3
  simp only [List.map_cons, List.map_nil] at v3
  obtain ⟨ni, nf, nk, nv, nc⟩ := n
  dsimp only at *
  cases nf
  · rw [if_neg (by simp)]
    go_enter Try.func47, Try.ntmps47
    go_wp2_with fail
    go_region_held3 (fun W => W.cell? ⟨b, 3, none⟩ = some (.string nk) ∧ W.cell? ⟨a.b3, 0, none⟩ = some (.func (.func 43) #[] #[pt a.bc]) ∧ W.cell? ⟨b, 4, none⟩ = some (.int .u64 nv)) (go_keep)
      ((go_at_call 43; refine (HT.out _ ⟨true, nk, nv, 0⟩ (Fr.refl _ _).drew).mono ?_; rintro e w2 ⟨hp2, hi⟩
        obtain ⟨V, rfl, HRR⟩ := hp2.ret
        have v3 := (HVT.out.keep hi).cell
        unfold tellV fn at v3
        simp only [List.map_cons, List.map_nil] at v3
        obtain ⟨_, _, _, y3, y4, _⟩ := nod_cells (HN.out.keepI hi)
        dsimp only at y3 y4
        clear hp2 hi))
    all_goals go_wp2
    all_goals go_ret
    all_goals exact HRR.out
  · rw [if_pos rfl]
    go_enter Try.func47, Try.ntmps47
    go_wp2_with (go_at_call 43; refine (HT.out _ .no (Fr.refl _ _)).mono ?_; rintro e w2 ⟨hp2, hi⟩; obtain ⟨V, rfl, HRR⟩ := hp2.ret; clear hp2 hi)
    go_ret
    exact HRR.out
set_option maxHeartbeats 4000000 in
theorem leaf_seek {X : List Nat} {w : World} {A : TA} {a : CA} {t : Tr} {c : Cl} {N : Value} (h : Cf X w A a t c N) (hk : c.kd = .sek) (l : Nat) (hl : l < t.ns.length) (ho : ((t.nd l).above c.key || (t.nd l).has c.key) = false → ∃ p, c.over = some p ∧ NdOk t p) :
    Calls Try.prog 49 #[A.np l, pt a.b1, pt a.b7, pt a.b0, pt a.b5] w (Post X w A a .sek N t (c.leaf t l .seek)) := by
  have HFO : Hid (∀ W, Fr [] w W → Calls Try.prog 47 #[A.np l, pt a.b3] W (Post X w A a .sek N t (c.found t l))) := Lib.hid fun W hW => (bt_found (h.keep0 hW) hk l hl).mono fun e w' hp => hp.after0 hW
  obtain ⟨b, hb1, hb2⟩ := h.tree.node hl
  rw [hb1] at HFO ⊢
  have HH : Hid (∀ W, NodB W b l (t.nd l) → Calls Try.prog 50 #[pt b, .string c.key] W fun e w' => e = .returned (.bool ((t.nd l).has c.key)) ∧ W = w') := Lib.hid fun W hW => nd_has _ l b _ W hW
  have HA : Hid (∀ W, NodB W b l (t.nd l) → Calls Try.prog 45 #[pt b, .string c.key] W fun e w' => e = .returned (.bool ((t.nd l).above c.key)) ∧ W = w') := Lib.hid fun W hW => nd_above _ l b _ W hW
  have e : c.leaf t l .seek = if ((t.nd l).above c.key || (t.nd l).has c.key) = true then c.found t l else (c, some (.desc (t.right (c.over.getD 0)) .left)) := by unfold Cl.leaf; rw [hk]
  rw [e]
  obtain ⟨B, hB⟩ : ∃ B, B = (t.nd l).has c.key := ⟨_, rfl⟩
  obtain ⟨D, hD⟩ : ∃ D, D = (t.nd l).above c.key := ⟨_, rfl⟩
  obtain ⟨n, hn⟩ : ∃ n, n = t.nd l := ⟨_, rfl⟩
  rw [← hB] at HH ho ⊢
  rw [← hD] at HA ho ⊢
  rw [← hn] at HH HA hb2
  have HN := Lib.hid hb2
  have HVK := Lib.hid h.call.ctx.vk
  have HVF := Lib.hid (h.call.ctx.vf hk)
  have HVX := Lib.hid (h.call.ctx.vx (by rw [hk]; decide))
  have v1 := HVK.out.cell
  have v7 := HVF.out.cell
  have v0 := HVX.out.cell
  unfold foundV fn at v7
  simp only [List.map_cons, List.map_nil] at v7
  have HC := Lib.hid h
  have hov := (h.call.over hk).1
  clear h hb1 hb2 hB hD hn e
  have arm : ∀ D B : Bool, (D || B) = true → True := fun _ _ _ => trivial
  cases D
  · cases B
    · obtain ⟨p, hp, hp1, hp2, hp3, hp4, hp5⟩ := ho rfl
      rw [if_neg (by simp)]
      obtain ⟨bp, hbp1, hbp2⟩ := HC.out.tree.node hp1
      rw [hp] at hov ⊢
      rw [Option.getD_some]
      have HOV := Lib.hid hov
      have HRI : Hid (∀ W, NodB W bp p (t.nd p) → Calls Try.prog 41 #[pt bp] W fun e w' => e = .returned ((t.nd p).right p).agg ∧ Fr [] W w') := Lib.hid fun W hW => nd_right _ p bp W hW hp4 hp5 hp2 hp3
      have HDS : Hid (∀ W, Fr [] w W → Calls Try.prog 48 #[pt A.tb, ((t.nd p).right p).agg, .func (.func 40) #[] #[], .func (.func 47) #[] #[pt a.b3]] W (fun e w' => Post X w A a .sek N t (c, some (.desc (t.right p) .left)) e w' ∧ Fr [] W w')) := Lib.hid fun W hW => (bt_desc0 (HC.out.keep0 hW) hk ((t.nd p).right p) .left).mono fun e w' hp => ⟨hp.1.after0 hW, hp.2⟩
      have HNP := Lib.hid hbp2
      have v5 := cell_block hov 0
      simp only [ovV, hbp1] at v5
      simp at v5
      have HBP := Lib.hid hbp1
      obtain ⟨R, hR⟩ : ∃ R, R = (t.nd p).right p := ⟨_, rfl⟩
      rw [← hR] at HRI HDS
      obtain ⟨rc, rf⟩ := R
      unfold Br.agg at HRI HDS
      dsimp only at HRI HDS
      clear ho hp hp1 hp2 hp3 hp4 hp5 hov hbp1 hbp2 hR
      go_enter Try.func49, Try.ntmps49
      go_wp2_with (first | (go_at_call 50; refine (HH.out _ HN.out).mono ?_; rintro e w3 ⟨rfl, rfl⟩) | (go_at_call 45; refine (HA.out _ HN.out).mono ?_; rintro e w3 ⟨rfl, rfl⟩))
      go_region_held3 (fun W => W.cell? ⟨a.b0, 0, none⟩ = some (pt A.tb) ∧ W.cell? ⟨a.b5, 0, none⟩ = some (pt bp) ∧ W.cell? ⟨a.b7, 0, none⟩ = some (.func (.func 47) #[] #[pt a.b3])) (go_keep)
        (first
          | (go_at_call 41; refine (HRI.out _ ((Fr.refl [] w).drew.keep HNP.out (by simp))).mono ?_; rintro e w2 ⟨rfl, hf2⟩
             have HF2 := Lib.hid ((Fr.refl [] w).drew.trans hf2 (by simp))
             have v0 := (HVX.out.keep HF2.out.iv0).cell
             have v7 := (HVF.out.keep HF2.out.iv0).cell
             unfold foundV fn at v7
             simp only [List.map_cons, List.map_nil] at v7
             have v5 := cell_block (HF2.out.keep HOV.out (by simp)) 0
             simp only [ovV, HBP.out] at v5
             simp at v5
             clear hf2)
          | (go_at_call 48; refine (HDS.out _ (by first | exact HF2.out | exact HF2.out.drew)).mono ?_; rintro e w4 ⟨hp2, hf4⟩
             have HF4 := Lib.hid (HF2.out.trans hf4 (by simp))
             have hi := HF4.out.iv0 (X := X)
             have v5 := cell_block (HF4.out.keep HOV.out (by simp)) 0
             simp only [ovV, HBP.out] at v5
             simp at v5
             clear hf4
             obtain ⟨V, rfl, HRR⟩ := hp2.ret
             have v0 := (HVX.out.keep hi).cell
             have v7 := (HVF.out.keep hi).cell
             unfold foundV fn at v7
             simp only [List.map_cons, List.map_nil] at v7
             clear hp2 hi))
      all_goals go_wp2
      all_goals go_ret
      all_goals exact HRR.out
    · rw [if_pos (by rfl)]
      clear ho
      go_enter Try.func49, Try.ntmps49
      go_wp2_with (first | (go_at_call 50; refine (HH.out _ HN.out).mono ?_; rintro e w3 ⟨rfl, rfl⟩) | (go_at_call 45; refine (HA.out _ HN.out).mono ?_; rintro e w3 ⟨rfl, rfl⟩) | (go_at_call 47; refine (HFO.out _ (Fr.refl _ _)).mono ?_; rintro e w2 hp2; obtain ⟨V, rfl, HRR⟩ := hp2.ret; clear hp2))
      go_ret
      exact HRR.out
  · rw [if_pos (by rfl)]
    clear ho
    go_enter Try.func49, Try.ntmps49
    go_wp2_with (first | (go_at_call 50; refine (HH.out _ HN.out).mono ?_; rintro e w3 ⟨rfl, rfl⟩) | (go_at_call 45; refine (HA.out _ HN.out).mono ?_; rintro e w3 ⟨rfl, rfl⟩) | (go_at_call 47; refine (HFO.out _ (Fr.refl _ _)).mono ?_; rintro e w2 hp2; obtain ⟨V, rfl, HRR⟩ := hp2.ret; clear hp2))
    go_ret
    exact HRR.out
end Go.Proofs.Ythiobdhdefimhaa
namespace Go.Proofs.Ythiobdhdefimhaa
open Go.RowKit
set_option linter.unusedVariables false
set_option linter.unusedSimpArgs false

theorem Cl.cut_zero (c : Cl) : c.cut 0 = c := by unfold Cl.cut; simp
theorem grow_fn {X : List Nat} {w : World} {A : TA} {a : CA} {t : Tr} {c : Cl} {N : Value} (h : Cf X w A a t c N) (hk : c.kd = .ins) (l : Nat) :
    Calls Try.prog 54 #[A.np l, pt a.b0, pt a.b6, pt a.b1, pt a.b4, pt a.b2, pt a.b3] w (Post X w A a .ins N t (c, some (.grow l))) := by
  have hv := Va.new X w 63 (A.np l) (by decide) h.xs
  have HP : Hid (Post X w A a .ins N t (c, some (.grow l)) (.returned (fn 55 [a.b0, a.b6, a.b1, a.b4, w.heap.size, a.b2, a.b3])) (w.alloc (.cells #[A.np l] 63))) := Lib.hid (Post.made h ((Fr.refl [] w).alloc _) hk ⟨_, rfl, hv⟩)
  clear h hv
  unfold TA.np at *
  go_enter Try.func54, Try.ntmps54
  go_wp2
  go_ret
  exact HP.out
theorem lose_fn {X : List Nat} {w : World} {A : TA} {a : CA} {t : Tr} {c : Cl} {N : Value} (h : Cf X w A a t c N) (hk : c.kd = .rem) (l : Nat) :
    Calls Try.prog 66 #[A.np l, pt a.b4, pt a.b1, pt a.b0, pt a.b3] w (Post X w A a .rem N t (c, some (.lose l))) := by
  have hv := Va.new X w 63 (A.np l) (by decide) h.xs
  have HP : Hid (Post X w A a .rem N t (c, some (.lose l)) (.returned (fn 67 [a.b4, a.b1, a.b0, a.b3, w.heap.size])) (w.alloc (.cells #[A.np l] 63))) := Lib.hid (Post.made h ((Fr.refl [] w).alloc _) hk ⟨_, rfl, hv⟩)
  clear h hv
  unfold TA.np at *
  go_enter Try.func66, Try.ntmps66
  go_wp2
  go_ret
  exact HP.out
set_option maxHeartbeats 4000000 in
theorem leaf_ins {X : List Nat} {w : World} {A : TA} {a : CA} {t : Tr} {c : Cl} {N : Value} (h : Cf X w A a t c N) (hk : c.kd = .ins) (l : Nat) (hl : l < t.ns.length) (hp : c.path ≠ []) (hlen : c.path.length ≤ 1000000000) (m : Md) :
    Calls Try.prog 62 #[A.np l, pt a.b1, pt a.b3, pt a.b5, pt a.b4, pt a.b7] w (Post X w A a .ins N t (c.leaf t l m)) := by
  have hw := h.call.way (Or.inl hk)
  obtain ⟨g, cap, hs, _, _, hcell, _⟩ := hw.slice hp
  have hl0 : 0 < c.path.length := List.length_pos_iff.2 hp
  have HG : Hid (∀ W, Fr [] w W → Calls Try.prog 54 #[A.np l, pt a.b0, pt a.b6, pt a.b1, pt a.b4, pt a.b2, pt a.b3] W (Post X w A a .ins N t (c, some (.grow l)))) := Lib.hid fun W hW => (grow_fn (h.keep0 hW) hk l).mono fun e w' hp => hp.after0 hW
  have HAN : Hid (∀ W, Fr [] w W → Calls Try.prog 63 #[pt a.wb, .int .i64 0] W (Post X w A a .ins N t (c, some .look))) := Lib.hid fun W hW => by
    have := bt_anew (h.keep0 hW) hk (Or.inl rfl) 0 (Nat.zero_le _) hp hlen
    rw [Cl.cut_zero] at this
    exact this.mono fun e w' hp => hp.after0 hW
  have HUP : Hid (Calls Try.prog 56 #[pt a.wb, .int .i64 0] w fun e w' => e = .returned (.pointer (some ⟨g, (c.path.length - 1) * 3, none⟩)) ∧ Fr [] w w') := Lib.hid (by have := way_up w A a c.key _ c.path 0 g cap hw hl0 hlen hs; simpa using this)
  have HAS : Hid (∀ W, Fr [] w W → W.cell? ⟨g, (c.path.length - 1) * 3 + 1, none⟩ = some (.bool (c.up 0).asked)) := Lib.hid fun W hW => by
    have hpu := c.up_get 0 hl0
    simp only [Nat.sub_zero] at hpu
    exact hW.cell (hcell _ _ hpu).2.1 (by simp)
  obtain ⟨b, hb1, hb2⟩ := h.tree.node hl
  rw [hb1] at HG ⊢
  have HT : Hid (∀ W r, Fr [] w W → Calls Try.prog 43 #[.agg #[.bool r.ok, .string r.key, .int .u64 r.val, .int .i64 r.err], pt a.bc] W fun e w' => Post X w A a .ins N t (c.tell r, none) e w' ∧ Iv X w w') := Lib.hid fun W r hW => (tell_at h W hW r).mono fun e w' hp => ⟨by rw [← hk]; exact hp, Post.iv h hp⟩
  have HH : Hid (∀ W, NodB W b l (t.nd l) → Calls Try.prog 50 #[pt b, .string c.key] W fun e w' => e = .returned (.bool ((t.nd l).has c.key)) ∧ W = w') := Lib.hid fun W hW => nd_has _ l b _ W hW
  have e : c.leaf t l m = if (t.nd l).has c.key then (c.tell ⟨false, c.key, (t.nd l).val, 0⟩, none) else if c.full then (c.tell ⟨false, ByteArray.empty, 0, 7⟩, none) else if (c.up 0).asked then (c, some (.grow l)) else (c, some .look) := by unfold Cl.leaf; rw [hk]
  rw [e]
  obtain ⟨B, hB⟩ : ∃ B, B = (t.nd l).has c.key := ⟨_, rfl⟩
  obtain ⟨n, hn⟩ : ∃ n, n = t.nd l := ⟨_, rfl⟩
  rw [← hB] at HH ⊢
  rw [← hn] at HH hb2 ⊢
  have HN := Lib.hid hb2
  have HVK := Lib.hid h.call.ctx.vk
  have HVT := Lib.hid h.call.ctx.vt
  have v1 := HVK.out.cell
  have v3 := HVT.out.cell
  have v4 := (h.call.ctx.vw (Or.inl hk)).cell
  have v7 := (h.call.ctx.v2 hk).2.2.cell
  have v5 := cell_block (h.call.full hk) 0
  simp at v5
  obtain ⟨F, hF⟩ : ∃ F, F = c.full := ⟨_, rfl⟩
  obtain ⟨S, hS⟩ : ∃ S, S = (c.up 0).asked := ⟨_, rfl⟩
  rw [← hF] at v5 ⊢
  rw [← hS] at HAS ⊢
  obtain ⟨_, _, _, _, y4, _⟩ := nod_cells hb2
  clear h hb1 hb2 hB hn e hw hs hcell hp hlen hl0 hF hS
  unfold tellV fn at v3
  unfold growV fn at v7
  simp only [List.map_cons, List.map_nil] at v3 v7
  cases B
  · cases F
    · cases S
      all_goals
        first | rw [if_neg Bool.false_ne_true, if_neg Bool.false_ne_true, if_neg Bool.false_ne_true] | rw [if_neg Bool.false_ne_true, if_neg Bool.false_ne_true, if_pos rfl]
        go_enter Try.func62, Try.ntmps62
        go_wp2_with (first | (go_at_call 50; refine (HH.out _ HN.out).mono ?_; rintro e w3 ⟨rfl, rfl⟩) | (go_at_call 56; refine HUP.out.mono ?_; rintro e w3 ⟨rfl, hf3⟩; refine go_stop ?_))
        unfold Stop
        have HF3 := Lib.hid hf3
        have z1 := HAS.out _ hf3
        have v4' := hf3.cell v4 (by simp)
        have v7' := hf3.cell v7 (by simp)
        clear hf3 v1 v3 v4 v5 v7 y4
        go_wp2_with (first | (go_at_call 63; refine (HAN.out _ HF3.out).mono ?_; rintro e w2 hp2; obtain ⟨V, rfl, HRR⟩ := hp2.ret; clear hp2) | (go_at_call 54; refine (HG.out _ HF3.out).mono ?_; rintro e w2 hp2; obtain ⟨V, rfl, HRR⟩ := hp2.ret; clear hp2))
        go_ret
        exact HRR.out
    · rw [if_neg (by simp), if_pos rfl]
      go_enter Try.func62, Try.ntmps62
      go_wp2_with (first | (go_at_call 50; refine (HH.out _ HN.out).mono ?_; rintro e w3 ⟨rfl, rfl⟩) | (go_at_call 43; refine (HT.out _ ⟨false, ByteArray.empty, 0, 7⟩ (Fr.refl _ _)).mono ?_; rintro e w2 ⟨hp2, hi⟩; obtain ⟨V, rfl, HRR⟩ := hp2.ret; clear hp2 hi))
      go_ret
      exact HRR.out
  · rw [if_pos rfl]
    go_enter Try.func62, Try.ntmps62
    go_wp2_with (go_at_call 50; refine (HH.out _ HN.out).mono ?_; rintro e w3 ⟨rfl, rfl⟩)
    go_region_held3 (fun W => W.cell? ⟨a.b1, 0, none⟩ = some (.string c.key) ∧ W.cell? ⟨a.b3, 0, none⟩ = some (.func (.func 43) #[] #[pt a.bc]) ∧ W.cell? ⟨b, 4, none⟩ = some (.int .u64 n.val)) (go_keep)
      ((go_at_call 43; refine (HT.out _ ⟨false, c.key, n.val, 0⟩ (Fr.refl _ _).drew).mono ?_; rintro e w2 ⟨hp2, hi⟩
        obtain ⟨V, rfl, HRR⟩ := hp2.ret
        have v1 := (HVK.out.keep hi).cell
        have v3 := (HVT.out.keep hi).cell
        unfold tellV fn at v3
        simp only [List.map_cons, List.map_nil] at v3
        obtain ⟨_, _, _, _, y4, _⟩ := nod_cells (HN.out.keepI hi)
        clear hp2 hi))
    all_goals go_wp2
    all_goals go_ret
    all_goals exact HRR.out
set_option maxHeartbeats 4000000 in
theorem leaf_rem {X : List Nat} {w : World} {A : TA} {a : CA} {t : Tr} {c : Cl} {N : Value} (h : Cf X w A a t c N) (hk : c.kd = .rem) (l : Nat) (hl : l < t.ns.length) (hp : (t.nd l).has c.key = true → 2 ≤ c.path.length) (hlen : c.path.length ≤ 1000000000) (m : Md) :
    Calls Try.prog 71 #[A.np l, pt a.b1, pt a.b3, pt a.b4, pt a.b7] w (Post X w A a .rem N t (c.leaf t l m)) := by
  have hw := h.call.way (Or.inr hk)
  have HG : Hid (∀ W, Fr [] w W → Calls Try.prog 66 #[A.np l, pt a.b4, pt a.b1, pt a.b0, pt a.b3] W (Post X w A a .rem N t (c, some (.lose l)))) := Lib.hid fun W hW => (lose_fn (h.keep0 hW) hk l).mono fun e w' hp => hp.after0 hW
  obtain ⟨b, hb1, hb2⟩ := h.tree.node hl
  rw [hb1] at HG ⊢
  have HT : Hid (∀ W r, Fr [] w W → Calls Try.prog 43 #[.agg #[.bool r.ok, .string r.key, .int .u64 r.val, .int .i64 r.err], pt a.bc] W fun e w' => Post X w A a .rem N t (c.tell r, none) e w' ∧ Iv X w w') := Lib.hid fun W r hW => (tell_at h W hW r).mono fun e w' hp => ⟨by rw [← hk]; exact hp, Post.iv h hp⟩
  have HH : Hid (∀ W, NodB W b l (t.nd l) → Calls Try.prog 50 #[pt b, .string c.key] W fun e w' => e = .returned (.bool ((t.nd l).has c.key)) ∧ W = w') := Lib.hid fun W hW => nd_has _ l b _ W hW
  have e : c.leaf t l m = if (t.nd l).has c.key then (if (c.up 1).asked then (c, some (.lose l)) else (c.cut 1, some .look)) else (c.tell ⟨false, c.key, 0, 0⟩, none) := by unfold Cl.leaf; rw [hk]
  rw [e]
  have HVK := Lib.hid h.call.ctx.vk
  have HVT := Lib.hid h.call.ctx.vt
  have v1 := HVK.out.cell
  have v3 := HVT.out.cell
  have v4 := (h.call.ctx.vw (Or.inr hk)).cell
  have v7 := (h.call.ctx.v7 hk).cell
  unfold tellV fn at v3
  unfold loseV fn at v7
  simp only [List.map_cons, List.map_nil] at v3 v7
  have HN := Lib.hid hb2
  cases hB : (t.nd l).has c.key
  · rw [hB] at HH
    rw [if_neg (by simp)]
    clear h hw hb1 hb2 e hp
    go_enter Try.func71, Try.ntmps71
    go_wp2_with (first | (go_at_call 50; refine (HH.out _ HN.out).mono ?_; rintro e w3 ⟨rfl, rfl⟩) | (go_at_call 43; refine (HT.out _ ⟨false, c.key, 0, 0⟩ (Fr.refl _ _)).mono ?_; rintro e w2 ⟨hp2, hi⟩; obtain ⟨V, rfl, HRR⟩ := hp2.ret; clear hp2 hi))
    go_ret
    exact HRR.out
  · rw [hB] at HH
    have hp2 := hp hB
    have hne : c.path ≠ [] := by intro e; rw [e] at hp2; simp at hp2
    obtain ⟨g, cap, hs, _, _, hcell, _⟩ := hw.slice hne
    have HAN : Hid (∀ W, Fr [] w W → Calls Try.prog 63 #[pt a.wb, .int .i64 1] W (Post X w A a .rem N t (c.cut 1, some .look))) := Lib.hid fun W hW => (bt_anew (h.keep0 hW) hk (Or.inr rfl) 1 (by omega) hne hlen).mono fun e w' hp => hp.after0 hW
    have HUP : Hid (Calls Try.prog 56 #[pt a.wb, .int .i64 1] w fun e w' => e = .returned (.pointer (some ⟨g, (c.path.length - 1 - 1) * 3, none⟩)) ∧ Fr [] w w') := Lib.hid (by have := way_up w A a c.key _ c.path 1 g cap hw (by omega) hlen hs; simpa using this)
    have HAS : Hid (∀ W, Fr [] w W → W.cell? ⟨g, (c.path.length - 1 - 1) * 3 + 1, none⟩ = some (.bool (c.up 1).asked)) := Lib.hid fun W hW => hW.cell (hcell _ _ (c.up_get 1 (by omega))).2.1 (by simp)
    obtain ⟨S, hS⟩ : ∃ S, S = (c.up 1).asked := ⟨_, rfl⟩
    rw [← hS] at HAS ⊢
    rw [if_pos rfl]
    clear h hw hb1 hb2 e hp hp2 hne hs hcell hS hlen
    cases S
    all_goals
      first | rw [if_neg Bool.false_ne_true] | rw [if_pos rfl]
      go_enter Try.func71, Try.ntmps71
      go_wp2_with (first | (go_at_call 50; refine (HH.out _ HN.out).mono ?_; rintro e w3 ⟨rfl, rfl⟩) | (go_at_call 56; refine HUP.out.mono ?_; rintro e w3 ⟨rfl, hf3⟩; refine go_stop ?_))
      unfold Stop
      have HF3 := Lib.hid hf3
      have z1 := HAS.out _ hf3
      have v4' := hf3.cell v4 (by simp)
      have v7' := hf3.cell v7 (by simp)
      clear hf3 v1 v3 v4 v7
      go_wp2_with (first | (go_at_call 63; refine (HAN.out _ HF3.out).mono ?_; rintro e w2 hp2; obtain ⟨V, rfl, HRR⟩ := hp2.ret; clear hp2) | (go_at_call 66; refine (HG.out _ HF3.out).mono ?_; rintro e w2 hp2; obtain ⟨V, rfl, HRR⟩ := hp2.ret; clear hp2))
      go_ret
      exact HRR.out
end Go.Proofs.Ythiobdhdefimhaa
