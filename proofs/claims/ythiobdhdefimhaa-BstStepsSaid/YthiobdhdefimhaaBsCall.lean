/- PACKAGE bst: Insert, Delete, Find, Seek (written by bst_call.py) -/
import Derived.Test.YthiobdhdefimhaaBsMake
namespace Go.Proofs.Ythiobdhdefimhaa
open Go.RowKit
set_option linter.unusedVariables false
set_option linter.unusedSimpArgs false

def MadePost (X : List Nat) (w : World) (A : TA) (t : Tr) (c : Cl) (s : Stp) (e : Ending) (w' : World) : Prop :=
  ∃ A' a V, e = .returned (pt a.cb) ∧ Cf X w' A' a t c V ∧ OutV X w' A' a c.kd V (some s) ∧ Ext A A' ∧ Fr A.foot w w' ∧ (∀ x ∈ A'.foot, x ∈ A.foot ∨ w.heap.size ≤ x) ∧ (∀ x ∈ a.foot c.kd, x ∈ A.foot ∨ w.heap.size ≤ x) ∧ w.heap.size ≤ a.cb
theorem DoPost.after0 {X : List Nat} {w W w' : World} {A : TA} {cb bc : Nat} {t : Tr} {c : Cl} {s : Stp} {e : Ending} (h : DoPost X W A cb bc t c s e w') (hf : Fr [] w W) : DoPost X w A cb bc t c s e w' := by
  obtain ⟨A', a, V, h1, h2, h3, h4, h5, h6, h7, h8, h9⟩ := h
  exact ⟨A', a, V, h1, h2, h3, h4, h5, h6, (hf.mono (by simp) : Fr (cb :: A.foot) w W).trans h7 (fun x hx => Or.inl hx), fun x hx => (h8 x hx).imp id (fun h => Nat.le_trans hf.size h), fun x hx => (h9 x hx).imp id (fun h => h.imp id (fun h => Nat.le_trans hf.size h))⟩
theorem DoPost.noted {X : List Nat} {w w' : World} {A : TA} {cb bc : Nat} {t : Tr} {c : Cl} {s : Stp} {V : Value} (h : DoPost X w A cb bc t c s (.returned V) w') {w0 : World} (hf : Fr [] w0 w) (hcb : w0.heap.size ≤ cb) :
    (∃ n, w'.cell? ⟨cb, 0, none⟩ = some n) ∧ w'.frozen? ⟨cb, 0, none⟩ = false ∧ w'.cell? ⟨bc, 0, none⟩ = some (pt cb) ∧ (w'.setCell ⟨cb, 0, none⟩ V).cell? ⟨bc, 0, none⟩ = some (pt cb) ∧ (∃ f x y, V = .func f x y) ∧ MadePost X w0 A t c s (.returned (pt cb)) (w'.setCell ⟨cb, 0, none⟩ V) := by
  obtain ⟨A', a, V', hV, rfl, rfl, hcf, hov, hext, hfr, hfA, hfa⟩ := h
  cases hV
  have hb := hcf.call.cbk
  obtain ⟨hs, hf2⟩ := hcf.call.setN V
  have hcbA : a.cb ∉ A'.foot := hcf.call.sep hcf.tree _ (CA.cb_in _ _)
  have hi : Iv X w' (w'.setCell ⟨a.cb, 0, none⟩ V) := hf2.iv (mut_one hb (imm_ty (by decide) (by decide)))
  refine ⟨⟨_, by simpa [clV] using cell_block hb 0⟩, free_block hb 0, hcf.call.ctx.vc.cell, (hcf.call.ctx.vc.keep hi).cell, StpAt.form hov, A', a, V, rfl, ⟨hcf.tree.keep hf2 hi (fun k hk' hm => ?_), hs, fun x hx => Nat.lt_of_lt_of_le (hcf.xs x hx) hf2.size⟩, StpAt.keep hi hov, hext, ?_, fun x hx => (hfA x hx).imp id (fun h => Nat.le_trans hf.size h), fun x hx => ?_, hcb⟩
  · simp only [List.mem_singleton] at hm
    subst hm
    exact hcbA hk'
  · refine ((hf.mono (by simp) : Fr A.foot w0 w).trans hfr (fun x hx => ?_)).trans hf2 (fun x hx => ?_)
    · rcases List.mem_cons.1 hx with rfl | hx
      · exact Or.inr hcb
      · exact Or.inl hx
    · simp only [List.mem_singleton] at hx
      subst hx
      exact Or.inr hcb
  · rcases hfa x hx with rfl | h1 | h1
    · exact Or.inr hcb
    · exact Or.inl h1
    · exact Or.inr (Nat.le_trans hf.size h1)
def Cl.sk (t : Tr) (k : ByteArray) : Cl := if (t.nd 2).above k then { Cl.new .sek k 0 with over := some 2 } else Cl.new .sek k 0

set_option maxRecDepth 20000 in
set_option maxHeartbeats 2000000 in
theorem fn_ins {X : List Nat} {w : World} {A : TA} {t : Tr} (cb bc s0 s1 s2 : Nat) (k : ByteArray) (v : Int) (hT : TreeAt w A t) (hB : Born w cb bc) (hx : ∀ x ∈ X, x < w.heap.size) (hbc : bc ∉ X) (h0 : w.cell? ⟨s0, 0, none⟩ = some (pt A.tb)) (h1 : w.cell? ⟨s1, 0, none⟩ = some (.string k)) (h2 : w.cell? ⟨s2, 0, none⟩ = some (.int .u64 v)) :
    Calls Try.prog 32 #[(.func (.func 43) #[] #[pt bc]), pt s0, pt s1, pt s2] w (DoPost X w A cb bc t (Cl.new .ins k v) .beg) := by
  have HDO : Hid (Calls Try.prog 33 #[pt A.tb, .string k, .int .u64 v, (.func (.func 43) #[] #[pt bc])] w.drew (DoPost X w A cb bc t (Cl.new .ins k v) .beg)) := Lib.hid (by
    have hW : Fr [] w w.drew := (Fr.refl [] w).drew
    have hxW : ∀ x ∈ X, x < w.drew.heap.size := hx
    exact (do_ins cb bc k v (hT.keep0 hW) (hB.keep hW) hxW hbc).mono fun e w' hp => hp.after0 hW)
  have HDR : Hid (∀ e w', (DoPost X w A cb bc t (Cl.new .ins k v) .beg) e w' → ∃ V, e = .returned V ∧ Hid ((DoPost X w A cb bc t (Cl.new .ins k v) .beg) (.returned V) w')) := Lib.hid (by
    intro e w' hp
    skip
    obtain ⟨A', a, V, rfl, h⟩ := hp
    exact ⟨V, rfl, Lib.hid ⟨A', a, V, rfl, h⟩⟩)
  clear hT hB hx hbc
  go_enter Try.func32, Try.ntmps32
  go_upto_region 1 with fail
  go_still_tail 6, (by kernel_rfl)
  go_wp2_with (go_at_call 33; refine HDO.out.mono ?_; rintro e w2 hp; obtain ⟨V, rfl, HRR⟩ := HDR.out _ _ hp; clear hp)
  go_ret
  exact HRR.out

set_option maxRecDepth 20000 in
set_option maxHeartbeats 4000000 in
theorem call_ins {X : List Nat} {w : World} {A : TA} {t : Tr} (s0 s1 s2 : Nat) (k : ByteArray) (v : Int) (hT : TreeAt w A t) (hx : ∀ x ∈ X, x < w.heap.size) (h0 : w.cell? ⟨s0, 0, none⟩ = some (pt A.tb)) (h1 : w.cell? ⟨s1, 0, none⟩ = some (.string k)) (h2 : w.cell? ⟨s2, 0, none⟩ = some (.int .u64 v)) :
    Calls Try.prog 29 #[pt A.tb, .func (.func 32) #[] #[pt s0, pt s1, pt s2]] w (MadePost X w A t (Cl.new .ins k v) .beg) := by
  obtain ⟨wa, hwa⟩ : ∃ wa, wa = (w.alloc (.cells #[.nilFunc, .bool false, .string ⟨#[]⟩, .int .u64 0, .int .i64 0] 85)).alloc (.cells #[pt w.heap.size] 34) := ⟨_, rfl⟩
  have hf : Fr [] w wa := by rw [hwa]; exact ((Fr.refl [] w).alloc _).alloc _
  have hb : Born wa w.heap.size (w.heap.size + 1) := by
    rw [hwa]
    exact ⟨((Fr.refl [] _).alloc _).keep (new_block w _) (by simp), new_block2 w _ _⟩
  obtain ⟨cb, hcb⟩ : ∃ cb, cb = w.heap.size := ⟨_, rfl⟩
  obtain ⟨bc, hbc⟩ : ∃ bc, bc = w.heap.size + 1 := ⟨_, rfl⟩
  rw [← hbc, ← hcb] at hb
  have hDO : ∀ W, Fr [] wa W → Calls Try.prog 32 #[(.func (.func 43) #[] #[pt bc]), pt s0, pt s1, pt s2] W fun e w' => ∃ V, e = .returned V ∧ (∃ n, w'.cell? ⟨cb, 0, none⟩ = some n) ∧ w'.frozen? ⟨cb, 0, none⟩ = false ∧ w'.cell? ⟨bc, 0, none⟩ = some (pt cb) ∧ (w'.setCell ⟨cb, 0, none⟩ V).cell? ⟨bc, 0, none⟩ = some (pt cb) ∧ (∃ f x y, V = .func f x y) ∧ (MadePost X w A t (Cl.new .ins k v) .beg) (.returned (pt cb)) (w'.setCell ⟨cb, 0, none⟩ V) := fun W hW => by
    have hfW : Fr [] w W := hf.trans hW (by simp)
    refine (fn_ins (X := X) cb bc s0 s1 s2 k v (hT.keep0 hfW) (hb.keep hW) (fun x h => Nat.lt_of_lt_of_le (hx x h) hfW.size) (fun hm => by have := hx _ hm; omega)  (hfW.cell h0 (by simp)) (hfW.cell h1 (by simp)) (hfW.cell h2 (by simp))).mono fun e w' hp => ?_
    skip
    obtain ⟨V, he, hp'⟩ : ∃ V, e = .returned V ∧ DoPost X W A cb bc t (Cl.new .ins k v) .beg (.returned V) w' := by
      obtain ⟨A', a, V, rfl, h⟩ := hp
      exact ⟨V, rfl, A', a, V, rfl, h⟩
    subst he
    obtain ⟨k1, k2, k3, k4, k5, k6⟩ := hp'.noted hfW (by omega)
    exact ⟨V, rfl, k1, k2, k3, k4, k5, k6⟩
  have HDO := Lib.hid hDO
  have v5 := cell_block hb.vc 0
  simp at v5
  have HWA := Lib.hid hwa
  have HCB := Lib.hid hcb
  have HBC := Lib.hid hbc
  clear hT hx h0 h1 h2 hf hb hwa hcb hbc hDO
  go_enter Try.func29, Try.ntmps29
  go_upto_region 4 with fail
  rw [← HWA.out, ← HBC.out, ← HCB.out]
  go_region_held3 (fun W => W.cell? ⟨bc, 0, none⟩ = some (pt cb)) (go_keep)
    ((go_at_call 32; refine (HDO.out _ (Fr.refl [] wa).drew).mono ?_; rintro e w2 ⟨V, rfl, ⟨n, c0⟩, f0, v5, v6, ⟨f, x, y, rfl⟩, hm⟩
      have HM := Lib.hid hm
      clear hm))
  all_goals go_wp2
  all_goals go_ret
  all_goals exact HM.out

set_option maxHeartbeats 4000000 in
theorem bt_Insert {X : List Nat} {w : World} {A : TA} {t : Tr} (k : ByteArray) (v : Int) (hT : TreeAt w A t) (hx : ∀ x ∈ X, x < w.heap.size) :
    Calls Try.prog 21 #[pt A.tb, .string k, .int .u64 v] w (MadePost X w A t (Cl.new .ins k v) .beg) := by
  obtain ⟨wa, hwa⟩ : ∃ wa, wa = (((w.alloc (.cells #[pt A.tb] 24)).alloc (.cells #[.string k] 9)).alloc (.cells #[.int .u64 v] 29)) := ⟨_, rfl⟩
  have hf : Fr [] w wa := by rw [hwa]; exact ((((Fr.refl [] w).alloc _).alloc _).alloc _)
  have b0 : wa.heap[w.heap.size]? = some (.cells #[pt A.tb] 24 (0, 0)) := by
    rw [hwa]; exact (((Fr.refl [] _).alloc _).alloc _).keep (new_block w _) (by simp)
  have b1 : wa.heap[w.heap.size + 1]? = some (.cells #[.string k] 9 (0, 0)) := by
    rw [hwa]; exact ((Fr.refl [] _).alloc _).keep (new_block2 w _ _) (by simp)
  have b2 : wa.heap[w.heap.size + 1 + 1]? = some (.cells #[.int .u64 v] 29 (0, 0)) := by
    rw [hwa]; simpa using new_block2 (w.alloc (.cells #[pt A.tb] 24)) (.cells #[.string k] 9) (.cells #[.int .u64 v] 29)
  have HCL : Hid (Calls Try.prog 29 #[pt A.tb, .func (.func 32) #[] #[pt w.heap.size, pt (w.heap.size + 1), pt (w.heap.size + 1 + 1)]] wa fun e w' => ∃ p, e = .returned (pt p) ∧ Hid ((MadePost X w A t (Cl.new .ins k v) .beg) (.returned (pt p)) w')) := Lib.hid ((call_ins (X := X) w.heap.size (w.heap.size + 1) (w.heap.size + 1 + 1) k v (hT.keep0 hf) (fun x h => Nat.lt_of_lt_of_le (hx x h) hf.size)  (by simpa using cell_block b0 0) (by simpa using cell_block b1 0) (by simpa using cell_block b2 0)).mono (by
    intro e w' hp
    skip
    obtain ⟨A', a, V, rfl, k1, k2, k3, k4, k5, k6, k7⟩ := hp
    have hs := hf.size
    exact ⟨a.cb, rfl, Lib.hid ⟨A', a, V, rfl, k1, k2, k3, (hf.mono (by simp) : Fr A.foot w wa).trans k4 (fun x hx => Or.inl hx), fun x hx => (k5 x hx).imp id (fun h => by omega), fun x hx => (k6 x hx).imp id (fun h => by omega), by omega⟩⟩))
  obtain ⟨q0, q1⟩ : True ∧ True := ⟨trivial, trivial⟩
  have c0 := cell_block b0 0
  simp at c0
  have HWA := Lib.hid hwa
  clear hT hx hf b0 b1 b2 hwa
  go_enter Try.func21, Try.ntmps21
  go_upto_region 1 with fail
  rw [← HWA.out]
  go_wp2_with (go_at_call 29; refine HCL.out.mono ?_; rintro e w2 ⟨p, rfl, HRR⟩)
  go_ret
  exact HRR.out

set_option maxRecDepth 20000 in
set_option maxHeartbeats 2000000 in
theorem fn_rem {X : List Nat} {w : World} {A : TA} {t : Tr} (cb bc s0 s1 : Nat) (k : ByteArray) (hT : TreeAt w A t) (hB : Born w cb bc) (hx : ∀ x ∈ X, x < w.heap.size) (hbc : bc ∉ X) (hno : NdOk t 2) (h0 : w.cell? ⟨s0, 0, none⟩ = some (pt A.tb)) (h1 : w.cell? ⟨s1, 0, none⟩ = some (.string k)) :
    Calls Try.prog 36 #[(.func (.func 43) #[] #[pt bc]), pt s0, pt s1] w (DoPost X w A cb bc t (Cl.new .rem k 0).start (.desc (t.toward 2 k) .way)) := by
  have HDO : Hid (Calls Try.prog 37 #[pt A.tb, .string k, (.func (.func 43) #[] #[pt bc])] w.drew (DoPost X w A cb bc t (Cl.new .rem k 0).start (.desc (t.toward 2 k) .way))) := Lib.hid (by
    have hW : Fr [] w w.drew := (Fr.refl [] w).drew
    have hxW : ∀ x ∈ X, x < w.drew.heap.size := hx
    exact (do_rem cb bc k (hT.keep0 hW) (hB.keep hW) hxW hbc hno).mono fun e w' hp => hp.after0 hW)
  have HDR : Hid (∀ e w', (DoPost X w A cb bc t (Cl.new .rem k 0).start (.desc (t.toward 2 k) .way)) e w' → ∃ V, e = .returned V ∧ Hid ((DoPost X w A cb bc t (Cl.new .rem k 0).start (.desc (t.toward 2 k) .way)) (.returned V) w')) := Lib.hid (by
    intro e w' hp
    skip
    obtain ⟨A', a, V, rfl, h⟩ := hp
    exact ⟨V, rfl, Lib.hid ⟨A', a, V, rfl, h⟩⟩)
  clear hT hB hx hbc hno
  go_enter Try.func36, Try.ntmps36
  go_upto_region 1 with fail
  go_still_tail 5, (by kernel_rfl)
  go_wp2_with (go_at_call 37; refine HDO.out.mono ?_; rintro e w2 hp; obtain ⟨V, rfl, HRR⟩ := HDR.out _ _ hp; clear hp)
  go_ret
  exact HRR.out

set_option maxRecDepth 20000 in
set_option maxHeartbeats 4000000 in
theorem call_rem {X : List Nat} {w : World} {A : TA} {t : Tr} (s0 s1 : Nat) (k : ByteArray) (hT : TreeAt w A t) (hx : ∀ x ∈ X, x < w.heap.size) (hno : NdOk t 2) (h0 : w.cell? ⟨s0, 0, none⟩ = some (pt A.tb)) (h1 : w.cell? ⟨s1, 0, none⟩ = some (.string k)) :
    Calls Try.prog 29 #[pt A.tb, .func (.func 36) #[] #[pt s0, pt s1]] w (MadePost X w A t (Cl.new .rem k 0).start (.desc (t.toward 2 k) .way)) := by
  obtain ⟨wa, hwa⟩ : ∃ wa, wa = (w.alloc (.cells #[.nilFunc, .bool false, .string ⟨#[]⟩, .int .u64 0, .int .i64 0] 85)).alloc (.cells #[pt w.heap.size] 34) := ⟨_, rfl⟩
  have hf : Fr [] w wa := by rw [hwa]; exact ((Fr.refl [] w).alloc _).alloc _
  have hb : Born wa w.heap.size (w.heap.size + 1) := by
    rw [hwa]
    exact ⟨((Fr.refl [] _).alloc _).keep (new_block w _) (by simp), new_block2 w _ _⟩
  obtain ⟨cb, hcb⟩ : ∃ cb, cb = w.heap.size := ⟨_, rfl⟩
  obtain ⟨bc, hbc⟩ : ∃ bc, bc = w.heap.size + 1 := ⟨_, rfl⟩
  rw [← hbc, ← hcb] at hb
  have hDO : ∀ W, Fr [] wa W → Calls Try.prog 36 #[(.func (.func 43) #[] #[pt bc]), pt s0, pt s1] W fun e w' => ∃ V, e = .returned V ∧ (∃ n, w'.cell? ⟨cb, 0, none⟩ = some n) ∧ w'.frozen? ⟨cb, 0, none⟩ = false ∧ w'.cell? ⟨bc, 0, none⟩ = some (pt cb) ∧ (w'.setCell ⟨cb, 0, none⟩ V).cell? ⟨bc, 0, none⟩ = some (pt cb) ∧ (∃ f x y, V = .func f x y) ∧ (MadePost X w A t (Cl.new .rem k 0).start (.desc (t.toward 2 k) .way)) (.returned (pt cb)) (w'.setCell ⟨cb, 0, none⟩ V) := fun W hW => by
    have hfW : Fr [] w W := hf.trans hW (by simp)
    refine (fn_rem (X := X) cb bc s0 s1 k (hT.keep0 hfW) (hb.keep hW) (fun x h => Nat.lt_of_lt_of_le (hx x h) hfW.size) (fun hm => by have := hx _ hm; omega) hno (hfW.cell h0 (by simp)) (hfW.cell h1 (by simp))).mono fun e w' hp => ?_
    skip
    obtain ⟨V, he, hp'⟩ : ∃ V, e = .returned V ∧ DoPost X W A cb bc t (Cl.new .rem k 0).start (.desc (t.toward 2 k) .way) (.returned V) w' := by
      obtain ⟨A', a, V, rfl, h⟩ := hp
      exact ⟨V, rfl, A', a, V, rfl, h⟩
    subst he
    obtain ⟨k1, k2, k3, k4, k5, k6⟩ := hp'.noted hfW (by omega)
    exact ⟨V, rfl, k1, k2, k3, k4, k5, k6⟩
  have HDO := Lib.hid hDO
  have v5 := cell_block hb.vc 0
  simp at v5
  have HWA := Lib.hid hwa
  have HCB := Lib.hid hcb
  have HBC := Lib.hid hbc
  clear hT hx h0 h1 hf hb hwa hcb hbc hDO hno
  go_enter Try.func29, Try.ntmps29
  go_upto_region 4 with fail
  rw [← HWA.out, ← HBC.out, ← HCB.out]
  go_region_held3 (fun W => W.cell? ⟨bc, 0, none⟩ = some (pt cb)) (go_keep)
    ((go_at_call 36; refine (HDO.out _ (Fr.refl [] wa).drew).mono ?_; rintro e w2 ⟨V, rfl, ⟨n, c0⟩, f0, v5, v6, ⟨f, x, y, rfl⟩, hm⟩
      have HM := Lib.hid hm
      clear hm))
  all_goals go_wp2
  all_goals go_ret
  all_goals exact HM.out

set_option maxHeartbeats 4000000 in
theorem bt_Delete {X : List Nat} {w : World} {A : TA} {t : Tr} (k : ByteArray) (hT : TreeAt w A t) (hx : ∀ x ∈ X, x < w.heap.size) (hno : NdOk t 2) :
    Calls Try.prog 24 #[pt A.tb, .string k] w (MadePost X w A t (Cl.new .rem k 0).start (.desc (t.toward 2 k) .way)) := by
  obtain ⟨wa, hwa⟩ : ∃ wa, wa = ((w.alloc (.cells #[pt A.tb] 24)).alloc (.cells #[.string k] 9)) := ⟨_, rfl⟩
  have hf : Fr [] w wa := by rw [hwa]; exact (((Fr.refl [] w).alloc _).alloc _)
  have b0 : wa.heap[w.heap.size]? = some (.cells #[pt A.tb] 24 (0, 0)) := by
    rw [hwa]; exact ((Fr.refl [] _).alloc _).keep (new_block w _) (by simp)
  have b1 : wa.heap[w.heap.size + 1]? = some (.cells #[.string k] 9 (0, 0)) := by
    rw [hwa]; exact new_block2 w _ _
  have HCL : Hid (Calls Try.prog 29 #[pt A.tb, .func (.func 36) #[] #[pt w.heap.size, pt (w.heap.size + 1)]] wa fun e w' => ∃ p, e = .returned (pt p) ∧ Hid ((MadePost X w A t (Cl.new .rem k 0).start (.desc (t.toward 2 k) .way)) (.returned (pt p)) w')) := Lib.hid ((call_rem (X := X) w.heap.size (w.heap.size + 1) k (hT.keep0 hf) (fun x h => Nat.lt_of_lt_of_le (hx x h) hf.size) hno (by simpa using cell_block b0 0) (by simpa using cell_block b1 0)).mono (by
    intro e w' hp
    skip
    obtain ⟨A', a, V, rfl, k1, k2, k3, k4, k5, k6, k7⟩ := hp
    have hs := hf.size
    exact ⟨a.cb, rfl, Lib.hid ⟨A', a, V, rfl, k1, k2, k3, (hf.mono (by simp) : Fr A.foot w wa).trans k4 (fun x hx => Or.inl hx), fun x hx => (k5 x hx).imp id (fun h => by omega), fun x hx => (k6 x hx).imp id (fun h => by omega), by omega⟩⟩))
  obtain ⟨q0, q1⟩ : True ∧ True := ⟨trivial, trivial⟩
  have c0 := cell_block b0 0
  simp at c0
  have HWA := Lib.hid hwa
  clear hT hx hf b0 b1 hwa hno
  go_enter Try.func24, Try.ntmps24
  go_upto_region 1 with fail
  rw [← HWA.out]
  go_wp2_with (go_at_call 29; refine HCL.out.mono ?_; rintro e w2 ⟨p, rfl, HRR⟩)
  go_ret
  exact HRR.out

set_option maxRecDepth 20000 in
set_option maxHeartbeats 2000000 in
theorem fn_fnd {X : List Nat} {w : World} {A : TA} {t : Tr} (cb bc s0 s1 : Nat) (k : ByteArray) (hT : TreeAt w A t) (hB : Born w cb bc) (hx : ∀ x ∈ X, x < w.heap.size) (hbc : bc ∉ X) (hno : NdOk t 2) (h0 : w.cell? ⟨s0, 0, none⟩ = some (pt A.tb)) (h1 : w.cell? ⟨s1, 0, none⟩ = some (.string k)) :
    Calls Try.prog 34 #[(.func (.func 43) #[] #[pt bc]), pt s0, pt s1] w (DoPost X w A cb bc t (Cl.new .fnd k 0) (.desc (t.toward 2 k) .find)) := by
  have HDO : Hid (Calls Try.prog 35 #[pt A.tb, .string k, (.func (.func 43) #[] #[pt bc])] w.drew (DoPost X w A cb bc t (Cl.new .fnd k 0) (.desc (t.toward 2 k) .find))) := Lib.hid (by
    have hW : Fr [] w w.drew := (Fr.refl [] w).drew
    have hxW : ∀ x ∈ X, x < w.drew.heap.size := hx
    exact (do_fnd cb bc k (hT.keep0 hW) (hB.keep hW) hxW hbc hno).mono fun e w' hp => hp.after0 hW)
  have HDR : Hid (∀ e w', (DoPost X w A cb bc t (Cl.new .fnd k 0) (.desc (t.toward 2 k) .find)) e w' → ∃ V, e = .returned V ∧ Hid ((DoPost X w A cb bc t (Cl.new .fnd k 0) (.desc (t.toward 2 k) .find)) (.returned V) w')) := Lib.hid (by
    intro e w' hp
    skip
    obtain ⟨A', a, V, rfl, h⟩ := hp
    exact ⟨V, rfl, Lib.hid ⟨A', a, V, rfl, h⟩⟩)
  clear hT hB hx hbc hno
  go_enter Try.func34, Try.ntmps34
  go_upto_region 1 with fail
  go_still_tail 5, (by kernel_rfl)
  go_wp2_with (go_at_call 35; refine HDO.out.mono ?_; rintro e w2 hp; obtain ⟨V, rfl, HRR⟩ := HDR.out _ _ hp; clear hp)
  go_ret
  exact HRR.out

set_option maxRecDepth 20000 in
set_option maxHeartbeats 4000000 in
theorem call_fnd {X : List Nat} {w : World} {A : TA} {t : Tr} (s0 s1 : Nat) (k : ByteArray) (hT : TreeAt w A t) (hx : ∀ x ∈ X, x < w.heap.size) (hno : NdOk t 2) (h0 : w.cell? ⟨s0, 0, none⟩ = some (pt A.tb)) (h1 : w.cell? ⟨s1, 0, none⟩ = some (.string k)) :
    Calls Try.prog 29 #[pt A.tb, .func (.func 34) #[] #[pt s0, pt s1]] w (MadePost X w A t (Cl.new .fnd k 0) (.desc (t.toward 2 k) .find)) := by
  obtain ⟨wa, hwa⟩ : ∃ wa, wa = (w.alloc (.cells #[.nilFunc, .bool false, .string ⟨#[]⟩, .int .u64 0, .int .i64 0] 85)).alloc (.cells #[pt w.heap.size] 34) := ⟨_, rfl⟩
  have hf : Fr [] w wa := by rw [hwa]; exact ((Fr.refl [] w).alloc _).alloc _
  have hb : Born wa w.heap.size (w.heap.size + 1) := by
    rw [hwa]
    exact ⟨((Fr.refl [] _).alloc _).keep (new_block w _) (by simp), new_block2 w _ _⟩
  obtain ⟨cb, hcb⟩ : ∃ cb, cb = w.heap.size := ⟨_, rfl⟩
  obtain ⟨bc, hbc⟩ : ∃ bc, bc = w.heap.size + 1 := ⟨_, rfl⟩
  rw [← hbc, ← hcb] at hb
  have hDO : ∀ W, Fr [] wa W → Calls Try.prog 34 #[(.func (.func 43) #[] #[pt bc]), pt s0, pt s1] W fun e w' => ∃ V, e = .returned V ∧ (∃ n, w'.cell? ⟨cb, 0, none⟩ = some n) ∧ w'.frozen? ⟨cb, 0, none⟩ = false ∧ w'.cell? ⟨bc, 0, none⟩ = some (pt cb) ∧ (w'.setCell ⟨cb, 0, none⟩ V).cell? ⟨bc, 0, none⟩ = some (pt cb) ∧ (∃ f x y, V = .func f x y) ∧ (MadePost X w A t (Cl.new .fnd k 0) (.desc (t.toward 2 k) .find)) (.returned (pt cb)) (w'.setCell ⟨cb, 0, none⟩ V) := fun W hW => by
    have hfW : Fr [] w W := hf.trans hW (by simp)
    refine (fn_fnd (X := X) cb bc s0 s1 k (hT.keep0 hfW) (hb.keep hW) (fun x h => Nat.lt_of_lt_of_le (hx x h) hfW.size) (fun hm => by have := hx _ hm; omega) hno (hfW.cell h0 (by simp)) (hfW.cell h1 (by simp))).mono fun e w' hp => ?_
    skip
    obtain ⟨V, he, hp'⟩ : ∃ V, e = .returned V ∧ DoPost X W A cb bc t (Cl.new .fnd k 0) (.desc (t.toward 2 k) .find) (.returned V) w' := by
      obtain ⟨A', a, V, rfl, h⟩ := hp
      exact ⟨V, rfl, A', a, V, rfl, h⟩
    subst he
    obtain ⟨k1, k2, k3, k4, k5, k6⟩ := hp'.noted hfW (by omega)
    exact ⟨V, rfl, k1, k2, k3, k4, k5, k6⟩
  have HDO := Lib.hid hDO
  have v5 := cell_block hb.vc 0
  simp at v5
  have HWA := Lib.hid hwa
  have HCB := Lib.hid hcb
  have HBC := Lib.hid hbc
  clear hT hx h0 h1 hf hb hwa hcb hbc hDO hno
  go_enter Try.func29, Try.ntmps29
  go_upto_region 4 with fail
  rw [← HWA.out, ← HBC.out, ← HCB.out]
  go_region_held3 (fun W => W.cell? ⟨bc, 0, none⟩ = some (pt cb)) (go_keep)
    ((go_at_call 34; refine (HDO.out _ (Fr.refl [] wa).drew).mono ?_; rintro e w2 ⟨V, rfl, ⟨n, c0⟩, f0, v5, v6, ⟨f, x, y, rfl⟩, hm⟩
      have HM := Lib.hid hm
      clear hm))
  all_goals go_wp2
  all_goals go_ret
  all_goals exact HM.out

set_option maxHeartbeats 4000000 in
theorem bt_Find {X : List Nat} {w : World} {A : TA} {t : Tr} (k : ByteArray) (hT : TreeAt w A t) (hx : ∀ x ∈ X, x < w.heap.size) (hno : NdOk t 2) :
    Calls Try.prog 23 #[pt A.tb, .string k] w (MadePost X w A t (Cl.new .fnd k 0) (.desc (t.toward 2 k) .find)) := by
  obtain ⟨wa, hwa⟩ : ∃ wa, wa = ((w.alloc (.cells #[pt A.tb] 24)).alloc (.cells #[.string k] 9)) := ⟨_, rfl⟩
  have hf : Fr [] w wa := by rw [hwa]; exact (((Fr.refl [] w).alloc _).alloc _)
  have b0 : wa.heap[w.heap.size]? = some (.cells #[pt A.tb] 24 (0, 0)) := by
    rw [hwa]; exact ((Fr.refl [] _).alloc _).keep (new_block w _) (by simp)
  have b1 : wa.heap[w.heap.size + 1]? = some (.cells #[.string k] 9 (0, 0)) := by
    rw [hwa]; exact new_block2 w _ _
  have HCL : Hid (Calls Try.prog 29 #[pt A.tb, .func (.func 34) #[] #[pt w.heap.size, pt (w.heap.size + 1)]] wa fun e w' => ∃ p, e = .returned (pt p) ∧ Hid ((MadePost X w A t (Cl.new .fnd k 0) (.desc (t.toward 2 k) .find)) (.returned (pt p)) w')) := Lib.hid ((call_fnd (X := X) w.heap.size (w.heap.size + 1) k (hT.keep0 hf) (fun x h => Nat.lt_of_lt_of_le (hx x h) hf.size) hno (by simpa using cell_block b0 0) (by simpa using cell_block b1 0)).mono (by
    intro e w' hp
    skip
    obtain ⟨A', a, V, rfl, k1, k2, k3, k4, k5, k6, k7⟩ := hp
    have hs := hf.size
    exact ⟨a.cb, rfl, Lib.hid ⟨A', a, V, rfl, k1, k2, k3, (hf.mono (by simp) : Fr A.foot w wa).trans k4 (fun x hx => Or.inl hx), fun x hx => (k5 x hx).imp id (fun h => by omega), fun x hx => (k6 x hx).imp id (fun h => by omega), by omega⟩⟩))
  obtain ⟨q0, q1⟩ : True ∧ True := ⟨trivial, trivial⟩
  have c0 := cell_block b0 0
  simp at c0
  have HWA := Lib.hid hwa
  clear hT hx hf b0 b1 hwa hno
  go_enter Try.func23, Try.ntmps23
  go_upto_region 1 with fail
  rw [← HWA.out]
  go_wp2_with (go_at_call 29; refine HCL.out.mono ?_; rintro e w2 ⟨p, rfl, HRR⟩)
  go_ret
  exact HRR.out

set_option maxRecDepth 20000 in
set_option maxHeartbeats 2000000 in
theorem fn_sek {X : List Nat} {w : World} {A : TA} {t : Tr} (cb bc s0 s1 : Nat) (k : ByteArray) (hT : TreeAt w A t) (hB : Born w cb bc) (hx : ∀ x ∈ X, x < w.heap.size) (hbc : bc ∉ X) (hno : NdOk t 2) (h0 : w.cell? ⟨s0, 0, none⟩ = some (pt A.tb)) (h1 : w.cell? ⟨s1, 0, none⟩ = some (.string k)) :
    Calls Try.prog 30 #[(.func (.func 43) #[] #[pt bc]), pt s0, pt s1] w (fun e w' => ∃ x, w.heap.size ≤ x ∧ DoPost (x :: X) w A cb bc t (Cl.sk t k) (.desc (t.toward 2 k) .seek) e w') := by
  have HDO : Hid (Calls Try.prog 31 #[pt A.tb, .string k, (.func (.func 43) #[] #[pt bc])] w.drew (fun e w' => ∃ x, w.heap.size ≤ x ∧ DoPost (x :: X) w A cb bc t (Cl.sk t k) (.desc (t.toward 2 k) .seek) e w')) := Lib.hid (by
    have hW : Fr [] w w.drew := (Fr.refl [] w).drew
    have hxW : ∀ x ∈ X, x < w.drew.heap.size := hx
    exact (do_sek cb bc k (hT.keep0 hW) (hB.keep hW) hxW hbc hno).mono fun e w' hp => ⟨_, Nat.le_add_right _ _, hp.after0 hW⟩)
  have HDR : Hid (∀ e w', (fun e w' => ∃ x, w.heap.size ≤ x ∧ DoPost (x :: X) w A cb bc t (Cl.sk t k) (.desc (t.toward 2 k) .seek) e w') e w' → ∃ V, e = .returned V ∧ Hid ((fun e w' => ∃ x, w.heap.size ≤ x ∧ DoPost (x :: X) w A cb bc t (Cl.sk t k) (.desc (t.toward 2 k) .seek) e w') (.returned V) w')) := Lib.hid (by
    intro e w' hp
    obtain ⟨x, hx, hp⟩ := hp
    obtain ⟨A', a, V, rfl, h⟩ := hp
    exact ⟨V, rfl, Lib.hid ⟨x, hx, ⟨A', a, V, rfl, h⟩⟩⟩)
  clear hT hB hx hbc hno
  go_enter Try.func30, Try.ntmps30
  go_upto_region 1 with fail
  go_still_tail 5, (by kernel_rfl)
  go_wp2_with (go_at_call 31; refine HDO.out.mono ?_; rintro e w2 hp; obtain ⟨V, rfl, HRR⟩ := HDR.out _ _ hp; clear hp)
  go_ret
  exact HRR.out

set_option maxRecDepth 20000 in
set_option maxHeartbeats 4000000 in
theorem call_sek {X : List Nat} {w : World} {A : TA} {t : Tr} (s0 s1 : Nat) (k : ByteArray) (hT : TreeAt w A t) (hx : ∀ x ∈ X, x < w.heap.size) (hno : NdOk t 2) (h0 : w.cell? ⟨s0, 0, none⟩ = some (pt A.tb)) (h1 : w.cell? ⟨s1, 0, none⟩ = some (.string k)) :
    Calls Try.prog 29 #[pt A.tb, .func (.func 30) #[] #[pt s0, pt s1]] w (fun e w' => ∃ x, w.heap.size ≤ x ∧ MadePost (x :: X) w A t (Cl.sk t k) (.desc (t.toward 2 k) .seek) e w') := by
  obtain ⟨wa, hwa⟩ : ∃ wa, wa = (w.alloc (.cells #[.nilFunc, .bool false, .string ⟨#[]⟩, .int .u64 0, .int .i64 0] 85)).alloc (.cells #[pt w.heap.size] 34) := ⟨_, rfl⟩
  have hf : Fr [] w wa := by rw [hwa]; exact ((Fr.refl [] w).alloc _).alloc _
  have hb : Born wa w.heap.size (w.heap.size + 1) := by
    rw [hwa]
    exact ⟨((Fr.refl [] _).alloc _).keep (new_block w _) (by simp), new_block2 w _ _⟩
  obtain ⟨cb, hcb⟩ : ∃ cb, cb = w.heap.size := ⟨_, rfl⟩
  obtain ⟨bc, hbc⟩ : ∃ bc, bc = w.heap.size + 1 := ⟨_, rfl⟩
  rw [← hbc, ← hcb] at hb
  have hDO : ∀ W, Fr [] wa W → Calls Try.prog 30 #[(.func (.func 43) #[] #[pt bc]), pt s0, pt s1] W fun e w' => ∃ V, e = .returned V ∧ (∃ n, w'.cell? ⟨cb, 0, none⟩ = some n) ∧ w'.frozen? ⟨cb, 0, none⟩ = false ∧ w'.cell? ⟨bc, 0, none⟩ = some (pt cb) ∧ (w'.setCell ⟨cb, 0, none⟩ V).cell? ⟨bc, 0, none⟩ = some (pt cb) ∧ (∃ f x y, V = .func f x y) ∧ (fun e w' => ∃ x, w.heap.size ≤ x ∧ MadePost (x :: X) w A t (Cl.sk t k) (.desc (t.toward 2 k) .seek) e w') (.returned (pt cb)) (w'.setCell ⟨cb, 0, none⟩ V) := fun W hW => by
    have hfW : Fr [] w W := hf.trans hW (by simp)
    refine (fn_sek (X := X) cb bc s0 s1 k (hT.keep0 hfW) (hb.keep hW) (fun x h => Nat.lt_of_lt_of_le (hx x h) hfW.size) (fun hm => by have := hx _ hm; omega) hno (hfW.cell h0 (by simp)) (hfW.cell h1 (by simp))).mono fun e w' hp => ?_
    obtain ⟨x, hx1, hp⟩ := hp
    obtain ⟨V, he, hp'⟩ : ∃ V, e = .returned V ∧ DoPost (x :: X) W A cb bc t (Cl.sk t k) (.desc (t.toward 2 k) .seek) (.returned V) w' := by
      obtain ⟨A', a, V, rfl, h⟩ := hp
      exact ⟨V, rfl, A', a, V, rfl, h⟩
    subst he
    obtain ⟨k1, k2, k3, k4, k5, k6⟩ := hp'.noted hfW (by omega)
    exact ⟨V, rfl, k1, k2, k3, k4, k5, x, Nat.le_trans hfW.size hx1, k6⟩
  have HDO := Lib.hid hDO
  have v5 := cell_block hb.vc 0
  simp at v5
  have HWA := Lib.hid hwa
  have HCB := Lib.hid hcb
  have HBC := Lib.hid hbc
  clear hT hx h0 h1 hf hb hwa hcb hbc hDO hno
  go_enter Try.func29, Try.ntmps29
  go_upto_region 4 with fail
  rw [← HWA.out, ← HBC.out, ← HCB.out]
  go_region_held3 (fun W => W.cell? ⟨bc, 0, none⟩ = some (pt cb)) (go_keep)
    ((go_at_call 30; refine (HDO.out _ (Fr.refl [] wa).drew).mono ?_; rintro e w2 ⟨V, rfl, ⟨n, c0⟩, f0, v5, v6, ⟨f, x, y, rfl⟩, hm⟩
      have HM := Lib.hid hm
      clear hm))
  all_goals go_wp2
  all_goals go_ret
  all_goals exact HM.out

set_option maxHeartbeats 4000000 in
theorem bt_Seek {X : List Nat} {w : World} {A : TA} {t : Tr} (k : ByteArray) (hT : TreeAt w A t) (hx : ∀ x ∈ X, x < w.heap.size) (hno : NdOk t 2) :
    Calls Try.prog 17 #[pt A.tb, .string k] w (fun e w' => ∃ x, w.heap.size ≤ x ∧ MadePost (x :: X) w A t (Cl.sk t k) (.desc (t.toward 2 k) .seek) e w') := by
  obtain ⟨wa, hwa⟩ : ∃ wa, wa = ((w.alloc (.cells #[pt A.tb] 24)).alloc (.cells #[.string k] 9)) := ⟨_, rfl⟩
  have hf : Fr [] w wa := by rw [hwa]; exact (((Fr.refl [] w).alloc _).alloc _)
  have b0 : wa.heap[w.heap.size]? = some (.cells #[pt A.tb] 24 (0, 0)) := by
    rw [hwa]; exact ((Fr.refl [] _).alloc _).keep (new_block w _) (by simp)
  have b1 : wa.heap[w.heap.size + 1]? = some (.cells #[.string k] 9 (0, 0)) := by
    rw [hwa]; exact new_block2 w _ _
  have HCL : Hid (Calls Try.prog 29 #[pt A.tb, .func (.func 30) #[] #[pt w.heap.size, pt (w.heap.size + 1)]] wa fun e w' => ∃ p, e = .returned (pt p) ∧ Hid ((fun e w' => ∃ x, w.heap.size ≤ x ∧ MadePost (x :: X) w A t (Cl.sk t k) (.desc (t.toward 2 k) .seek) e w') (.returned (pt p)) w')) := Lib.hid ((call_sek (X := X) w.heap.size (w.heap.size + 1) k (hT.keep0 hf) (fun x h => Nat.lt_of_lt_of_le (hx x h) hf.size) hno (by simpa using cell_block b0 0) (by simpa using cell_block b1 0)).mono (by
    intro e w' hp
    obtain ⟨x, hx1, hp⟩ := hp
    obtain ⟨A', a, V, rfl, k1, k2, k3, k4, k5, k6, k7⟩ := hp
    have hs := hf.size
    exact ⟨a.cb, rfl, Lib.hid ⟨x, by omega, ⟨A', a, V, rfl, k1, k2, k3, (hf.mono (by simp) : Fr A.foot w wa).trans k4 (fun x hx => Or.inl hx), fun x hx => (k5 x hx).imp id (fun h => by omega), fun x hx => (k6 x hx).imp id (fun h => by omega), by omega⟩⟩⟩))
  obtain ⟨q0, q1⟩ : True ∧ True := ⟨trivial, trivial⟩
  have c0 := cell_block b0 0
  simp at c0
  have HWA := Lib.hid hwa
  clear hT hx hf b0 b1 hwa hno
  go_enter Try.func17, Try.ntmps17
  go_upto_region 1 with fail
  rw [← HWA.out]
  go_wp2_with (go_at_call 29; refine HCL.out.mono ?_; rintro e w2 ⟨p, rfl, HRR⟩)
  go_ret
  exact HRR.out
end Go.Proofs.Ythiobdhdefimhaa
