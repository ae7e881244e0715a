/- PACKAGE bst: whereto a way goes on -/
import Derived.Test.YthiobdhdefimhaaBsLeaf
namespace Go.Proofs.Ythiobdhdefimhaa
open Go.RowKit
set_option linter.unusedVariables false
set_option linter.unusedSimpArgs false

def TowPost (X : List Nat) (w : World) (A : TA) (a : CA) (kd : Kd) (N : Value) (t : Tr) (c : Cl) (n : Nat) (m : Md) (e : Ending) (w' : World) : Prop :=
  ∃ a', (∃ pv, a' = { a with pv := pv }) ∧ e = .returned (c.toward t n m).2.agg ∧ Cf X w' A a' t (c.toward t n m).1 N ∧ (c.toward t n m).1.kd = kd ∧ Fr (a.foot kd) w w' ∧ ∀ x ∈ Both A a' kd, x ∈ Both A a kd ∨ w.heap.size ≤ x
set_option maxHeartbeats 2000000 in
theorem tow_find {X : List Nat} {w : World} {A : TA} {a : CA} {t : Tr} {c : Cl} {N : Value} {kd : Kd} (h : Cf X w A a t c N) (hk : c.kd = kd) (n : Nat) (hn : NdOk t n) :
    Calls Try.prog 64 #[A.np n, pt a.b1] w (TowPost X w A a kd N t c n .find) := by
  obtain ⟨hn1, hn2, hn3, hn4, hn5⟩ := hn
  obtain ⟨b, hb1, hb2⟩ := h.tree.node hn1
  rw [hb1]
  have HTO : Hid (∀ W, NodB W b n (t.nd n) → Calls Try.prog 46 #[pt b, .string c.key] W fun e w' => e = .returned ((t.nd n).toward n c.key).agg ∧ Fr [] W w') := Lib.hid fun W hW => nd_toward _ n b _ W hW hn4 hn5 hn2 hn3
  have HQ : Hid (∀ W, Fr [] w W → TowPost X w A a kd N t c n .find (.returned ((t.nd n).toward n c.key).agg) W) := Lib.hid fun W hW => ⟨a, ⟨a.pv, rfl⟩, rfl, h.keep0 hW, hk, hW.mono (by simp), fun x hx => Or.inl hx⟩
  obtain ⟨wa, hwa⟩ : ∃ wa, wa = w.alloc (.cells #[.int .i64 0, .int .u64 0] 94) := ⟨_, rfl⟩
  have HF : Hid (Fr [] w wa) := Lib.hid (by rw [hwa]; exact (Fr.refl [] w).alloc _)
  have HNB : Hid (wa.heap[w.heap.size]? = some (.cells #[.int .i64 0, .int .u64 0] 94 (0, 0))) := Lib.hid (by rw [hwa]; exact new_block w _)
  have HN := Lib.hid (HF.out.keep hb2 (by simp) : NodB wa b n (t.nd n))
  have v1 := (h.call.ctx.vk.keep (HF.out.iv0 (X := X))).cell
  have HWA := Lib.hid hwa
  obtain ⟨T, hT⟩ : ∃ T, T = (t.nd n).toward n c.key := ⟨_, rfl⟩
  rw [← hT] at HTO HQ
  obtain ⟨tc, tf⟩ := T
  unfold Br.agg at HTO HQ
  dsimp only at HTO HQ
  clear h hn1 hn2 hn3 hn4 hn5 hb1 hb2 hwa hT
  go_enter Try.func64, Try.ntmps64
  go_upto_region 1 with fail
  rw [← HWA.out]
  go_wp2_with (go_at_call 46; refine (HTO.out _ HN.out).mono ?_; rintro e w4 ⟨rfl, hf⟩; have HF4 := Lib.hid hf; have HR4 := Lib.hid (hf.keep HNB.out (by simp)); obtain ⟨b0, b1, _⟩ := cells2 HR4.out; have g0 := free_block HR4.out 0; have g1 := free_block HR4.out 1; clear hf)
  refine bodyPost_ret (v := .agg #[.int .i64 tc, .int .u64 tf]) (by simp [results, Try.results64, go_sem, *]) rfl (HQ.out _ ?_)
  exact ((HF.out.trans (T := []) HF4.out (by simp)).setCell (Or.inr (Nat.le_refl _)) _).setCell (Or.inr (Nat.le_refl _)) _
theorem tow_left {X : List Nat} {w : World} {A : TA} {a : CA} {t : Tr} {c : Cl} {N : Value} {kd : Kd} (h : Cf X w A a t c N) (hk : c.kd = kd) (n : Nat) (hn : NdOk t n) :
    Calls Try.prog 40 #[A.np n] w (TowPost X w A a kd N t c n .left) := by
  obtain ⟨hn1, hn2, hn3, hn4, hn5⟩ := hn
  obtain ⟨b, hb1, hb2⟩ := h.tree.node hn1
  rw [hb1]
  exact (nd_left _ n b w hb2 hn4 hn5 hn2 hn3).mono fun e w' ⟨he, hf⟩ => ⟨a, ⟨a.pv, rfl⟩, he, h.keep0 hf, hk, hf.mono (by simp), fun x hx => Or.inl hx⟩
theorem NodB.off {X : List Nat} {w : World} {S : List Nat} {b p : Nat} {n : Nd} (h : NodB w b p n) (hm : Mut X w S) : b ∉ S := fun hb => hm b hb _ h nod_imm
theorem tow_way {X : List Nat} {w : World} {A : TA} {a : CA} {t : Tr} {c : Cl} {N : Value} {kd : Kd} (h : Cf X w A a t c N) (hk : c.kd = kd) (hkd : kd = .ins ∨ kd = .rem) (n : Nat) (hn : NdOk t n) (hl : c.path.length ≤ 1000000000) :
    Calls Try.prog 77 #[pt a.wb, A.np n] w (TowPost X w A a kd N t c n .way) := by
  subst hk
  obtain ⟨hn1, hn2, hn3, hn4, hn5⟩ := hn
  obtain ⟨b, hb1, hb2⟩ := h.tree.node hn1
  have hm : Mut X w (WayAt.foot a) := h.call.mut.sub (CA.way_in hkd)
  have := way_pass w A a c.key _ c.path n b (t.nd n) (h.call.way hkd) hl hb1 hb2 hn4 hn5 hn2 hn3 (hb2.off hm)
  rw [hb1]
  refine this.mono fun e w' ⟨he, hp⟩ => ?_
  obtain ⟨pv, k1, k2, k3, k4⟩ := h.passed hkd rfl hp
  exact ⟨_, ⟨pv, rfl⟩, he, k1, rfl, k2.mono (fun k hk => Or.inl (CA.way_in hkd k hk)), k4⟩
set_option maxHeartbeats 4000000 in
theorem tow_seek {X : List Nat} {w : World} {A : TA} {a : CA} {t : Tr} {c : Cl} {N : Value} (h : Cf X w A a t c N) (hk : c.kd = .sek) (n : Nat) (hn : NdOk t n) :
    Calls Try.prog 44 #[A.np n, pt a.b1, pt a.b5] w (TowPost X w A a .sek N t c n .seek) := by
  obtain ⟨hn1, hn2, hn3, hn4, hn5⟩ := hn
  obtain ⟨b, hb1, hb2⟩ := h.tree.node hn1
  rw [hb1]
  have HTO : Hid (∀ W, NodB W b n (t.nd n) → Calls Try.prog 46 #[pt b, .string c.key] W fun e w' => e = .returned ((t.nd n).toward n c.key).agg ∧ Fr [] W w') := Lib.hid fun W hW => nd_toward _ n b _ W hW hn4 hn5 hn2 hn3
  have HAB : Hid (∀ W, NodB W b n (t.nd n) → Calls Try.prog 45 #[pt b, .string c.key] W fun e w' => e = .returned (.bool ((t.nd n).above c.key)) ∧ W = w') := Lib.hid fun W hW => nd_above _ n b _ W hW
  obtain ⟨hov, hx⟩ := h.call.over hk
  have hcb : a.cb ≠ a.b5 := by
    intro e
    have := h.call.cbk
    unfold CallB at this
    rw [e, hov] at this; simp only [Option.some.injEq, Obj.cells.injEq] at this
    exact absurd this.2.1 (by decide)
  have hset : ∀ W c', Fr [a.b5] w W → c'.kd = .sek → c'.key = c.key → c'.val = c.val → c'.ans = c.ans → W.heap[a.b5]? = some (.cells #[ovV A c'.over] 63 (0, 0)) → Cf X W A a t c' N := by
    intro W c' hf k1 k2 k3 k4 k5
    have hi : Iv X w W := hf.iv (mut_one hov (imm_over (by decide) hx))
    refine ⟨h.tree.keep hf hi ?_, ⟨?_, ?_, fun e => ?_, fun e => ?_, fun e => ⟨k5, hx⟩⟩, fun x hx => Nat.lt_of_lt_of_le (h.xs x hx) hf.size⟩
    · intro k hk' hm
      simp only [List.mem_singleton] at hm
      subst hm
      exact h.call.sep h.tree _ (by rw [hk]; simp [CA.foot]) hk'
    · rw [k1, k2, k3, ← hk]; exact h.call.ctx.keep hi
    · rw [k4]; exact hf.keep h.call.cbk (by simpa using hcb)
    · rw [k1] at e; rcases e with e | e <;> cases e
    · rw [k1] at e; cases e
  have HQ : Hid (∀ W, Fr [a.b5] w W → W.heap[a.b5]? = some (.cells #[ovV A (c.toward t n .seek).1.over] 63 (0, 0)) → TowPost X w A a .sek N t c n .seek (.returned ((t.nd n).toward n c.key).agg) W) := Lib.hid fun W hW hb =>
    ⟨a, ⟨a.pv, rfl⟩, rfl, hset W _ hW (by unfold Cl.toward; dsimp only; split <;> exact hk) (by unfold Cl.toward; dsimp only; split <;> rfl) (by unfold Cl.toward; dsimp only; split <;> rfl) (by unfold Cl.toward; dsimp only; split <;> rfl) hb, by unfold Cl.toward; dsimp only; split <;> exact hk, hW.mono (fun k hk' => Or.inl (by simp at hk'; subst hk'; simp [CA.foot])), fun x hx => Or.inl hx⟩
  have hto : (c.toward t n .seek).1.over = if (t.nd n).above c.key then some n else c.over := by unfold Cl.toward; dsimp only; split <;> rfl
  rw [hto] at HQ
  obtain ⟨wa, hwa⟩ : ∃ wa, wa = w.alloc (.cells #[.int .i64 0, .int .u64 0] 94) := ⟨_, rfl⟩
  have HF : Hid (Fr [] w wa) := Lib.hid (by rw [hwa]; exact (Fr.refl [] w).alloc _)
  have HNB : Hid (wa.heap[w.heap.size]? = some (.cells #[.int .i64 0, .int .u64 0] 94 (0, 0))) := Lib.hid (by rw [hwa]; exact new_block w _)
  have HN := Lib.hid (HF.out.keep hb2 (by simp) : NodB wa b n (t.nd n))
  have HVK := Lib.hid (h.call.ctx.vk.keep (HF.out.iv0 (X := X)))
  have v1 := HVK.out.cell
  have HOV := Lib.hid (HF.out.keep hov (by simp))
  have v5 := cell_block HOV.out 0
  simp at v5
  have f5 := free_block HOV.out 0
  have HWA := Lib.hid hwa
  have HB1 := Lib.hid hb1
  have h5lt := lt_of_block hov
  have n1 : ¬ a.b5 = w.heap.size := by omega
  have n2 : ¬ w.heap.size = a.b5 := by omega
  have hbb : b ≠ a.b5 := by rintro rfl; unfold NodB at hb2; rw [hov] at hb2; simp only [Option.some.injEq, Obj.cells.injEq] at hb2; exact absurd hb2.2.1 (by decide)
  have hkb : a.b1 ≠ a.b5 := fun e => h.call.ctx.vk.out (by rw [e]; exact hx)
  have HBB := Lib.hid hbb
  have HKB := Lib.hid hkb
  obtain ⟨T, hT⟩ : ∃ T, T = (t.nd n).toward n c.key := ⟨_, rfl⟩
  rw [← hT] at HTO HQ
  obtain ⟨D, hD⟩ : ∃ D, D = (t.nd n).above c.key := ⟨_, rfl⟩
  rw [← hD] at HAB HQ
  obtain ⟨tc, tf⟩ := T
  unfold Br.agg at HTO HQ
  dsimp only at HTO HQ
  clear h hn1 hn2 hn3 hn4 hn5 hb1 hb2 hwa hT hD hset hto hcb hbb hkb hov hx
  cases D
  · go_enter Try.func44, Try.ntmps44
    go_upto_region 1 with fail
    rw [← HWA.out]
    go_wp2_with (first | (go_at_call 45; refine (HAB.out _ HN.out).mono ?_; rintro e w3 ⟨rfl, rfl⟩) | (go_at_call 46; refine (HTO.out _ HN.out).mono ?_; rintro e w4 ⟨rfl, hf⟩; have HF4 := Lib.hid hf; have HR4 := Lib.hid (hf.keep HNB.out (by simp)); obtain ⟨b0, b1, _⟩ := cells2 HR4.out; have g0 := free_block HR4.out 0; have g1 := free_block HR4.out 1; clear hf))
    refine bodyPost_ret (v := .agg #[.int .i64 tc, .int .u64 tf]) (by simp [results, Try.results44, go_sem, *]) rfl (HQ.out _ ?_ ?_)
    · exact (((HF.out.trans (T := []) HF4.out (by simp)).setCell (Or.inr (Nat.le_refl _)) _).setCell (Or.inr (Nat.le_refl _)) _).mono (by simp)
    · simp only [Bool.false_eq_true, if_false]
      exact set_other (set_other (HF4.out.keep HOV.out (by simp)) n1 _ _) n1 _ _
  · have hf5 : Fr [a.b5] wa (wa.setCell ⟨a.b5, 0, none⟩ (pt b)) := (Fr.refl _ _).setCell (Or.inl (by simp)) _
    have HF5 := Lib.hid hf5
    have HN5 : Hid (NodB (wa.setCell ⟨a.b5, 0, none⟩ (pt b)) b n (t.nd n)) := Lib.hid (hf5.keep HN.out (by simpa using HBB.out))
    have HNB5 := Lib.hid (hf5.keep HNB.out (by simpa using n2))
    have HOV5 := Lib.hid (set_block HOV.out 0 (pt b))
    have v1' := hf5.cell v1 (by simpa using HKB.out)
    clear hf5
    go_enter Try.func44, Try.ntmps44
    go_upto_region 1 with fail
    rw [← HWA.out]
    go_wp2_with (first | (go_at_call 45; refine (HAB.out _ HN.out).mono ?_; rintro e w3 ⟨rfl, rfl⟩) | (go_at_call 46; refine (HTO.out _ HN5.out).mono ?_; rintro e w4 ⟨rfl, hf⟩; have HF4 := Lib.hid hf; have HR4 := Lib.hid (hf.keep HNB5.out (by simp)); obtain ⟨b0, b1, _⟩ := cells2 HR4.out; have g0 := free_block HR4.out 0; have g1 := free_block HR4.out 1; clear hf))
    refine bodyPost_ret (v := .agg #[.int .i64 tc, .int .u64 tf]) (by simp [results, Try.results44, go_sem, *]) rfl (HQ.out _ ?_ ?_)
    · exact ((((HF.out.mono (by simp) : Fr [a.b5] w wa).trans HF5.out (fun x hx => Or.inl hx)).trans (T := []) HF4.out (by simp)).setCell (Or.inr (Nat.le_refl _)) _).setCell (Or.inr (Nat.le_refl _)) _
    · simp only [if_true, ovV, HB1.out]
      have := HF4.out.keep HOV5.out (by simp)
      exact set_other (set_other (by simpa using this) n1 _ _) n1 _ _
end Go.Proofs.Ythiobdhdefimhaa
