/- PACKAGE bst: what is done at a leaf
PACKAGE bst: what is done at a leaf: Seek
PACKAGE bst: what is done at a leaf: Insert, Delete
PACKAGE bst: whereto a way goes on -/
import Derived.Test.YtmhiolhgofackaaBsMk
namespace Go.Proofs.Ytmhiolhgofackaa
open Go.RowKit
set_option linter.unusedVariables false
set_option linter.unusedSimpArgs false

theorem NodB.keepI {X : List Nat} {w w' : World} {b p : Nat} {n : Nd} (h : NodB w b p n) (hi : Iv X w w') : NodB w' b p n := hi.keep _ _ h nod_imm
theorem Post.iv {X : List Nat} {w w' : World} {A : TA} {a : CA} {t t' : Tr} {c : Cl} {N : Value} {o : Out} {e : Ending} (h : Cf X w A a t c N) (hp : Post X w A a c.kd N t' o e w') : Iv X w w' := by
  obtain ⟨_, _, _, _, _, _, _, _, _, hf, _⟩ := hp
  exact h.iv hf
theorem Post.of_cf {X : List Nat} {w W : World} {A : TA} {a : CA} {t : Tr} {c : Cl} {N : Value} (h : Cf X w A a t c N) (hf : Fr [] w W) : Cf X W A a t c N := h.keep0 hf
/-- tell, at a world that came of w -/
theorem tell_at {X : List Nat} {w : World} {A : TA} {a : CA} {t : Tr} {c : Cl} {N : Value} (h : Cf X w A a t c N) (W : World) (hf : Fr [] w W) (r : An) : Calls Try.prog 42 #[.agg #[.bool r.ok, .string r.key, .int .u64 r.val, .int .i64 r.err], pt a.bc] W fun e w' => Post X w A a c.kd N t (c.tell r, none) e w' :=
  (bt_tell (h.keep0 hf) rfl r).mono fun e w' hp => hp.after0 hf
set_option maxHeartbeats 2000000 in
theorem leaf_find {X : List Nat} {w : World} {A : TA} {a : CA} {t : Tr} {c : Cl} {N : Value} (h : Cf X w A a t c N) (hk : c.kd = .fnd) (l : Nat) (hl : l < t.ns.length) (m : Md) :
    Calls Try.prog 46 #[A.np l, pt a.b1, pt a.b3] w (Post X w A a .fnd N t (c.leaf t l m)) := by
  obtain ⟨b, hb1, hb2⟩ := h.tree.node hl
  rw [hb1]
  have HT : Hid (∀ W r, Fr [] w W → Calls Try.prog 42 #[.agg #[.bool r.ok, .string r.key, .int .u64 r.val, .int .i64 r.err], pt a.bc] W fun e w' => Post X w A a .fnd N t (c.tell r, none) e w' ∧ Iv X w w') := Lib.hid fun W r hW => (tell_at h W hW r).mono fun e w' hp => ⟨by rw [← hk]; exact hp, Post.iv h hp⟩
  have HH : Hid (∀ W, NodB W b l (t.nd l) → Calls Try.prog 47 #[pt b, .string c.key] W fun e w' => e = .returned (.bool ((t.nd l).has c.key)) ∧ W = w') := Lib.hid fun W hW => nd_has _ l b _ W hW
  have e : c.leaf t l m = if (t.nd l).has c.key then (c.tell ⟨true, c.key, (t.nd l).val, 0⟩, none) else (c.tell ⟨false, c.key, 0, 0⟩, none) := by unfold Cl.leaf; rw [hk]
  rw [e]
  obtain ⟨B, hB⟩ : ∃ B, B = (t.nd l).has c.key := ⟨_, rfl⟩
  obtain ⟨n, hn⟩ : ∃ n, n = t.nd l := ⟨_, rfl⟩
  rw [← hB] at HH ⊢
  rw [← hn] at HH hb2 ⊢
  have HN := Lib.hid hb2
  have HVK := Lib.hid h.call.ctx.vk
  have HVT := Lib.hid h.call.ctx.vt
  have v1 := HVK.out.cell
  have v3 := HVT.out.cell
  obtain ⟨_, _, _, _, y4, _⟩ := nod_cells hb2
  clear h hb1 hb2 hB hn e
  unfold tellV fn at v3
  simp only [List.map_cons, List.map_nil] at v3
  cases B
  · rw [if_neg (by simp)]
    go_enter Try.func46, Try.ntmps46
    go_wp2_with (first | (go_at_call 47; refine (HH.out _ HN.out).mono ?_; rintro e w3 ⟨rfl, rfl⟩) | (go_at_call 42; refine (HT.out _ ⟨false, c.key, 0, 0⟩ (Fr.refl _ _)).mono ?_; rintro e w2 ⟨hp2, hi⟩; obtain ⟨V, rfl, HRR⟩ := hp2.ret; clear hp2 hi))
    go_ret
    exact HRR.out
  · rw [if_pos rfl]
    go_enter Try.func46, Try.ntmps46
    go_wp2_with (go_at_call 47; refine (HH.out _ HN.out).mono ?_; rintro e w3 ⟨rfl, rfl⟩)
    go_region_held3 (fun W => W.cell? ⟨a.b1, 0, none⟩ = some (.string c.key) ∧ W.cell? ⟨a.b3, 0, none⟩ = some (.func (.func 42) #[] #[pt a.bc]) ∧ W.cell? ⟨b, 4, none⟩ = some (.int .u64 n.val)) (go_keep)
      ((go_at_call 42; refine (HT.out _ ⟨true, c.key, n.val, 0⟩ (Fr.refl _ _).drew).mono ?_; rintro e w2 ⟨hp2, hi⟩
        obtain ⟨V, rfl, HRR⟩ := hp2.ret
        have v1 := (HVK.out.keep hi).cell
        have v3 := (HVT.out.keep hi).cell
        unfold tellV fn at v3
        simp only [List.map_cons, List.map_nil] at v3
        obtain ⟨_, _, _, _, y4, _⟩ := nod_cells (HN.out.keepI hi)
        clear hp2 hi))
    all_goals go_wp2
    all_goals go_ret
    all_goals exact HRR.out
end Go.Proofs.Ytmhiolhgofackaa
namespace Go.Proofs.Ytmhiolhgofackaa
open Go.RowKit
set_option linter.unusedVariables false
set_option linter.unusedSimpArgs false

/-- an inner node's place and cells are small -/
def NdOk (t : Tr) (p : Nat) : Prop := p < t.ns.length ∧ 2 ≤ p ∧ p ≤ 65536 ∧ 0 ≤ (t.nd p).cell ∧ (t.nd p).cell ≤ 65536
end Go.Proofs.Ytmhiolhgofackaa
namespace Go.Proofs.Ytmhiolhgofackaa
open Go.RowKit
set_option linter.unusedVariables false
set_option linter.unusedSimpArgs false

theorem Cl.cut_zero (c : Cl) : c.cut 0 = c := by unfold Cl.cut; simp
theorem grow_fn {X : List Nat} {w : World} {A : TA} {a : CA} {t : Tr} {c : Cl} {N : Value} (h : Cf X w A a t c N) (hk : c.kd = .ins) (l : Nat) :
    Calls Try.prog 51 #[A.np l, pt a.b0, pt a.b6, pt a.b1, pt a.b4, pt a.b2, pt a.b3] w (Post X w A a .ins N t (c, some (.grow l))) := by
  have hv := Va.new X w 45 (A.np l) (by decide) h.xs
  have HP : Hid (Post X w A a .ins N t (c, some (.grow l)) (.returned (fn 52 [a.b0, a.b6, a.b1, a.b4, w.heap.size, a.b2, a.b3])) (w.alloc (.cells #[A.np l] 45))) := Lib.hid (Post.made h ((Fr.refl [] w).alloc _) hk ⟨_, rfl, hv⟩)
  clear h hv
  unfold TA.np at *
  go_enter Try.func51, Try.ntmps51
  go_wp2
  go_ret
  exact HP.out
set_option maxHeartbeats 4000000 in
theorem leaf_ins {X : List Nat} {w : World} {A : TA} {a : CA} {t : Tr} {c : Cl} {N : Value} (h : Cf X w A a t c N) (hk : c.kd = .ins) (l : Nat) (hl : l < t.ns.length) (hp : c.path ≠ []) (hlen : c.path.length ≤ 1000000000) (m : Md) :
    Calls Try.prog 59 #[A.np l, pt a.b1, pt a.b3, pt a.b5, pt a.b4, pt a.b7] w (Post X w A a .ins N t (c.leaf t l m)) := by
  have hw := h.call.way (Or.inl hk)
  obtain ⟨g, cap, hs, _, _, hcell, _⟩ := hw.slice hp
  have hl0 : 0 < c.path.length := List.length_pos_iff.2 hp
  have HG : Hid (∀ W, Fr [] w W → Calls Try.prog 51 #[A.np l, pt a.b0, pt a.b6, pt a.b1, pt a.b4, pt a.b2, pt a.b3] W (Post X w A a .ins N t (c, some (.grow l)))) := Lib.hid fun W hW => (grow_fn (h.keep0 hW) hk l).mono fun e w' hp => hp.after0 hW
  have HAN : Hid (∀ W, Fr [] w W → Calls Try.prog 60 #[pt a.wb, .int .i64 0] W (Post X w A a .ins N t (c, some .look))) := Lib.hid fun W hW => by
    have := bt_anew (h.keep0 hW) hk (Or.inl rfl) 0 (Nat.zero_le _) hp hlen
    rw [Cl.cut_zero] at this
    exact this.mono fun e w' hp => hp.after0 hW
  have HUP : Hid (Calls Try.prog 53 #[pt a.wb, .int .i64 0] w fun e w' => e = .returned (.pointer (some ⟨g, (c.path.length - 1) * 3, none⟩)) ∧ Fr [] w w') := Lib.hid (by have := way_up w A a c.key _ c.path 0 g cap hw hl0 hlen hs; simpa using this)
  have HAS : Hid (∀ W, Fr [] w W → W.cell? ⟨g, (c.path.length - 1) * 3 + 1, none⟩ = some (.bool (c.up 0).asked)) := Lib.hid fun W hW => by
    have hpu := c.up_get 0 hl0
    simp only [Nat.sub_zero] at hpu
    exact hW.cell (hcell _ _ hpu).2.1 (by simp)
  obtain ⟨b, hb1, hb2⟩ := h.tree.node hl
  rw [hb1] at HG ⊢
  have HT : Hid (∀ W r, Fr [] w W → Calls Try.prog 42 #[.agg #[.bool r.ok, .string r.key, .int .u64 r.val, .int .i64 r.err], pt a.bc] W fun e w' => Post X w A a .ins N t (c.tell r, none) e w' ∧ Iv X w w') := Lib.hid fun W r hW => (tell_at h W hW r).mono fun e w' hp => ⟨by rw [← hk]; exact hp, Post.iv h hp⟩
  have HH : Hid (∀ W, NodB W b l (t.nd l) → Calls Try.prog 47 #[pt b, .string c.key] W fun e w' => e = .returned (.bool ((t.nd l).has c.key)) ∧ W = w') := Lib.hid fun W hW => nd_has _ l b _ W hW
  have e : c.leaf t l m = if (t.nd l).has c.key then (c.tell ⟨false, c.key, (t.nd l).val, 0⟩, none) else if c.full then (c.tell ⟨false, ByteArray.empty, 0, 7⟩, none) else if (c.up 0).asked then (c, some (.grow l)) else (c, some .look) := by unfold Cl.leaf; rw [hk]
  rw [e]
  obtain ⟨B, hB⟩ : ∃ B, B = (t.nd l).has c.key := ⟨_, rfl⟩
  obtain ⟨n, hn⟩ : ∃ n, n = t.nd l := ⟨_, rfl⟩
  rw [← hB] at HH ⊢
  rw [← hn] at HH hb2 ⊢
  have HN := Lib.hid hb2
  have HVK := Lib.hid h.call.ctx.vk
  have HVT := Lib.hid h.call.ctx.vt
  have v1 := HVK.out.cell
  have v3 := HVT.out.cell
  have v4 := (h.call.ctx.vw (Or.inl hk)).cell
  have v7 := (h.call.ctx.v2 hk).2.2.cell
  have v5 := cell_block (h.call.full hk) 0
  simp at v5
  obtain ⟨F, hF⟩ : ∃ F, F = c.full := ⟨_, rfl⟩
  obtain ⟨S, hS⟩ : ∃ S, S = (c.up 0).asked := ⟨_, rfl⟩
  rw [← hF] at v5 ⊢
  rw [← hS] at HAS ⊢
  obtain ⟨_, _, _, _, y4, _⟩ := nod_cells hb2
  clear h hb1 hb2 hB hn e hw hs hcell hp hlen hl0 hF hS
  unfold tellV fn at v3
  unfold growV fn at v7
  simp only [List.map_cons, List.map_nil] at v3 v7
  cases B
  · cases F
    · cases S
      all_goals
        first | rw [if_neg Bool.false_ne_true, if_neg Bool.false_ne_true, if_neg Bool.false_ne_true] | rw [if_neg Bool.false_ne_true, if_neg Bool.false_ne_true, if_pos rfl]
        go_enter Try.func59, Try.ntmps59
        go_wp2_with (first | (go_at_call 47; refine (HH.out _ HN.out).mono ?_; rintro e w3 ⟨rfl, rfl⟩) | (go_at_call 53; refine HUP.out.mono ?_; rintro e w3 ⟨rfl, hf3⟩; refine go_stop ?_))
        unfold Stop
        have HF3 := Lib.hid hf3
        have z1 := HAS.out _ hf3
        have v4' := hf3.cell v4 (by simp)
        have v7' := hf3.cell v7 (by simp)
        clear hf3 v1 v3 v4 v5 v7 y4
        go_wp2_with (first | (go_at_call 60; refine (HAN.out _ HF3.out).mono ?_; rintro e w2 hp2; obtain ⟨V, rfl, HRR⟩ := hp2.ret; clear hp2) | (go_at_call 51; refine (HG.out _ HF3.out).mono ?_; rintro e w2 hp2; obtain ⟨V, rfl, HRR⟩ := hp2.ret; clear hp2))
        go_ret
        exact HRR.out
    · rw [if_neg (by simp), if_pos rfl]
      go_enter Try.func59, Try.ntmps59
      go_wp2_with (first | (go_at_call 47; refine (HH.out _ HN.out).mono ?_; rintro e w3 ⟨rfl, rfl⟩) | (go_at_call 42; refine (HT.out _ ⟨false, ByteArray.empty, 0, 7⟩ (Fr.refl _ _)).mono ?_; rintro e w2 ⟨hp2, hi⟩; obtain ⟨V, rfl, HRR⟩ := hp2.ret; clear hp2 hi))
      go_ret
      exact HRR.out
  · rw [if_pos rfl]
    go_enter Try.func59, Try.ntmps59
    go_wp2_with (go_at_call 47; refine (HH.out _ HN.out).mono ?_; rintro e w3 ⟨rfl, rfl⟩)
    go_region_held3 (fun W => W.cell? ⟨a.b1, 0, none⟩ = some (.string c.key) ∧ W.cell? ⟨a.b3, 0, none⟩ = some (.func (.func 42) #[] #[pt a.bc]) ∧ W.cell? ⟨b, 4, none⟩ = some (.int .u64 n.val)) (go_keep)
      ((go_at_call 42; refine (HT.out _ ⟨false, c.key, n.val, 0⟩ (Fr.refl _ _).drew).mono ?_; rintro e w2 ⟨hp2, hi⟩
        obtain ⟨V, rfl, HRR⟩ := hp2.ret
        have v1 := (HVK.out.keep hi).cell
        have v3 := (HVT.out.keep hi).cell
        unfold tellV fn at v3
        simp only [List.map_cons, List.map_nil] at v3
        obtain ⟨_, _, _, _, y4, _⟩ := nod_cells (HN.out.keepI hi)
        clear hp2 hi))
    all_goals go_wp2
    all_goals go_ret
    all_goals exact HRR.out
end Go.Proofs.Ytmhiolhgofackaa
namespace Go.Proofs.Ytmhiolhgofackaa
open Go.RowKit
set_option linter.unusedVariables false
set_option linter.unusedSimpArgs false

def TowPost (X : List Nat) (w : World) (A : TA) (a : CA) (kd : Kd) (N : Value) (t : Tr) (c : Cl) (n : Nat) (m : Md) (e : Ending) (w' : World) : Prop :=
  ∃ a', (∃ pv, a' = { a with pv := pv }) ∧ e = .returned (c.toward t n m).2.agg ∧ Cf X w' A a' t (c.toward t n m).1 N ∧ (c.toward t n m).1.kd = kd ∧ Fr (a.foot kd) w w' ∧ ∀ x ∈ Both A a' kd, x ∈ Both A a kd ∨ w.heap.size ≤ x
set_option maxHeartbeats 2000000 in
theorem tow_find {X : List Nat} {w : World} {A : TA} {a : CA} {t : Tr} {c : Cl} {N : Value} {kd : Kd} (h : Cf X w A a t c N) (hk : c.kd = kd) (n : Nat) (hn : NdOk t n) :
    Calls Try.prog 43 #[A.np n, pt a.b1] w (TowPost X w A a kd N t c n .find) := by
  obtain ⟨hn1, hn2, hn3, hn4, hn5⟩ := hn
  obtain ⟨b, hb1, hb2⟩ := h.tree.node hn1
  rw [hb1]
  have HTO : Hid (∀ W, NodB W b n (t.nd n) → Calls Try.prog 44 #[pt b, .string c.key] W fun e w' => e = .returned ((t.nd n).toward n c.key).agg ∧ Fr [] W w') := Lib.hid fun W hW => nd_toward _ n b _ W hW hn4 hn5 hn2 hn3
  have HQ : Hid (∀ W, Fr [] w W → TowPost X w A a kd N t c n .find (.returned ((t.nd n).toward n c.key).agg) W) := Lib.hid fun W hW => ⟨a, ⟨a.pv, rfl⟩, rfl, h.keep0 hW, hk, hW.mono (by simp), fun x hx => Or.inl hx⟩
  obtain ⟨wa, hwa⟩ : ∃ wa, wa = w.alloc (.cells #[.int .i64 0, .int .u64 0] 105) := ⟨_, rfl⟩
  have HF : Hid (Fr [] w wa) := Lib.hid (by rw [hwa]; exact (Fr.refl [] w).alloc _)
  have HNB : Hid (wa.heap[w.heap.size]? = some (.cells #[.int .i64 0, .int .u64 0] 105 (0, 0))) := Lib.hid (by rw [hwa]; exact new_block w _)
  have HN := Lib.hid (HF.out.keep hb2 (by simp) : NodB wa b n (t.nd n))
  have v1 := (h.call.ctx.vk.keep (HF.out.iv0 (X := X))).cell
  have HWA := Lib.hid hwa
  obtain ⟨T, hT⟩ : ∃ T, T = (t.nd n).toward n c.key := ⟨_, rfl⟩
  rw [← hT] at HTO HQ
  obtain ⟨tc, tf⟩ := T
  unfold Br.agg at HTO HQ
  dsimp only at HTO HQ
  clear h hn1 hn2 hn3 hn4 hn5 hb1 hb2 hwa hT
  go_enter Try.func43, Try.ntmps43
  go_upto_region 1 with fail
  rw [← HWA.out]
  go_wp2_with (go_at_call 44; refine (HTO.out _ HN.out).mono ?_; rintro e w4 ⟨rfl, hf⟩; have HF4 := Lib.hid hf; have HR4 := Lib.hid (hf.keep HNB.out (by simp)); obtain ⟨b0, b1, _⟩ := cells2 HR4.out; have g0 := free_block HR4.out 0; have g1 := free_block HR4.out 1; clear hf)
  refine bodyPost_ret (v := .agg #[.int .i64 tc, .int .u64 tf]) (by simp [results, Try.results43, go_sem, *]) rfl (HQ.out _ ?_)
  exact ((HF.out.trans (T := []) HF4.out (by simp)).setCell (Or.inr (Nat.le_refl _)) _).setCell (Or.inr (Nat.le_refl _)) _
theorem tow_left {X : List Nat} {w : World} {A : TA} {a : CA} {t : Tr} {c : Cl} {N : Value} {kd : Kd} (h : Cf X w A a t c N) (hk : c.kd = kd) (n : Nat) (hn : NdOk t n) :
    Calls Try.prog 66 #[A.np n] w (TowPost X w A a kd N t c n .left) := by
  obtain ⟨hn1, hn2, hn3, hn4, hn5⟩ := hn
  obtain ⟨b, hb1, hb2⟩ := h.tree.node hn1
  rw [hb1]
  exact (nd_left _ n b w hb2 hn4 hn5 hn2 hn3).mono fun e w' ⟨he, hf⟩ => ⟨a, ⟨a.pv, rfl⟩, he, h.keep0 hf, hk, hf.mono (by simp), fun x hx => Or.inl hx⟩
theorem NodB.off {X : List Nat} {w : World} {S : List Nat} {b p : Nat} {n : Nd} (h : NodB w b p n) (hm : Mut X w S) : b ∉ S := fun hb => hm b hb _ h nod_imm
theorem tow_way {X : List Nat} {w : World} {A : TA} {a : CA} {t : Tr} {c : Cl} {N : Value} {kd : Kd} (h : Cf X w A a t c N) (hk : c.kd = kd) (hkd : kd = .ins ∨ kd = .rem) (n : Nat) (hn : NdOk t n) (hl : c.path.length ≤ 1000000000) :
    Calls Try.prog 71 #[pt a.wb, A.np n] w (TowPost X w A a kd N t c n .way) := by
  subst hk
  obtain ⟨hn1, hn2, hn3, hn4, hn5⟩ := hn
  obtain ⟨b, hb1, hb2⟩ := h.tree.node hn1
  have hm : Mut X w (WayAt.foot a) := h.call.mut.sub (CA.way_in hkd)
  have := way_pass w A a c.key _ c.path n b (t.nd n) (h.call.way hkd) hl hb1 hb2 hn4 hn5 hn2 hn3 (hb2.off hm)
  rw [hb1]
  refine this.mono fun e w' ⟨he, hp⟩ => ?_
  obtain ⟨pv, k1, k2, k3, k4⟩ := h.passed hkd rfl hp
  exact ⟨_, ⟨pv, rfl⟩, he, k1, rfl, k2.mono (fun k hk => Or.inl (CA.way_in hkd k hk)), k4⟩
end Go.Proofs.Ytmhiolhgofackaa
