/- PACKAGE cursor: last, refusal, Window, gather, Token, Resume: contracts
PACKAGE cursor: Window, Open: contracts -/
import Derived.Test.YtmbfcdoemcffpaaCuRef
import Derived.Test.YtmbfcdoemcffpaaHistRead
namespace Go.Proofs.Ytmbfcdoemcffpaa
open Go.RowKit
set_option linter.unusedVariables false
set_option linter.unusedSimpArgs false

theorem cur_last (C : Cu) (w : World) (hn : Few40 C.next) : Calls Try.prog 36 #[C.val] w fun e w' => e = .returned (.int .i64 (C.next - 1)) ∧ Fr [] w w' := by
  unfold Cu.val
  unfold Few40 at hn
  have q1 : IntKind.i64.wrap (C.next - 1) = C.next - 1 := by simp only [IntKind.wrap, IntKind.signed, IntKind.bits]; simp; omega
  go_enter Try.func36, Try.ntmps36
  go_wp2_with fail
  go_ret
  exact ⟨rfl, (Fr.refl [] w).alloc _⟩
def Cu.refE (C : Cu) (rev hor : Int) : Int := if C.dead = true then 4 else if C.next ≤ hor then 5 else if rev < C.next - 1 then 6 else 0
theorem cur_refusal (C : Cu) (seq rev hor : Int) (w : World) (hn : Few40 C.next) : Calls Try.prog 35 #[C.val, headV seq rev hor] w fun e w' => e = .returned (.int .i64 (C.refE rev hor)) ∧ Fr [] w w' := by
  have HN := Lib.hid hn
  obtain ⟨f, t, next, once, dead⟩ := C
  have CL := Lib.hid fun W => cur_last ⟨f, t, next, once, dead⟩ W HN.out
  unfold Cu.val at CL
  unfold Cu.val headV
  clear hn
  cases dead with
  | true =>
    go_enter Try.func35, Try.ntmps35
    go_wp2_with fail
    go_ret
    exact ⟨rfl, ((Fr.refl [] w).alloc _).alloc _⟩
  | false =>
    by_cases h1 : next ≤ hor
    · have t1 : decide (next ≤ hor) = true := by simpa using h1
      have HE : Hid (Cu.refE ⟨f, t, next, once, false⟩ rev hor = 5) := Lib.hid (by unfold Cu.refE; rw [if_neg (by simp), if_pos h1])
      clear h1
      go_enter Try.func35, Try.ntmps35
      go_wp2_with fail
      go_ret
      exact ⟨by rw [HE.out]; rfl, ((Fr.refl [] w).alloc _).alloc _⟩
    · have t1 : decide (next ≤ hor) = false := by simpa using h1
      obtain ⟨wb, hwb⟩ : ∃ wb, wb = (w.alloc (Obj.cells #[.string f, .string t, .int .i64 next, .bool once, .bool false] 31)).alloc (Obj.cells #[.int .i64 seq, .int .i64 rev, .int .i64 hor] 27) := ⟨_, rfl⟩
      have HWB := Lib.hid hwb
      have HF : Hid (Fr [] w wb) := Lib.hid (by rw [hwb]; exact ((Fr.refl [] w).alloc _).alloc _)
      obtain ⟨x0, x1, _⟩ := two_boxes (w := w) (w1 := wb) (a := .cells #[.string f, .string t, .int .i64 next, .bool once, .bool false] 31) (b := .cells #[.int .i64 seq, .int .i64 rev, .int .i64 hor] 27) (by rw [hwb]; exact Fr.refl _ _)
      obtain ⟨b0, b1, b2, b3, b4, _⟩ := cells5 x0
      obtain ⟨c0, c1, c2, _⟩ := cells3 x1
      have A0 := fun n : After [] wb => n.cell b0 (by simp)
      have A1 := fun n : After [] wb => n.cell b1 (by simp)
      have A2 := fun n : After [] wb => n.cell b2 (by simp)
      have A3 := fun n : After [] wb => n.cell b3 (by simp)
      have A4 := fun n : After [] wb => n.cell b4 (by simp)
      have A5 := fun n : After [] wb => n.cell c1 (by simp)
      clear hwb x0 x1
      by_cases h2 : rev < next - 1
      all_goals
        have HE : Hid (Cu.refE ⟨f, t, next, once, false⟩ rev hor = if rev < next - 1 then 6 else 0) := Lib.hid (by unfold Cu.refE; rw [if_neg (by simp), if_neg h1])
        have H2 := Lib.hid h2
        first | (have t3 : decide (rev < next - 1) = true := by simpa using h2) | (have t3 : decide (rev < next - 1) = false := by simpa using h2)
        clear h2
        go_enter Try.func35, Try.ntmps35
        go_wp2_with fail
        rw [← HWB.out]
        refine wp_region_after [] (by kernel_rfl) (by kernel_rfl) ?_
        repeat (go_big_quiet_step ((go_at_call 36; exact After.quiet (CL.out _))))
        refine wpQuiet_nil ?_
        rintro _ ⟨nq, rfl⟩
        go_wp2_with fail
        go_ret
        refine ⟨?_, HF.out.trans nq.fr (by simp)⟩
        rw [HE.out]
      · rw [if_pos H2.out]; rfl
      · rw [if_neg (by have := H2.out; omega)]; rfl
theorem cur_token (C : Cu) (w : World) : Calls Try.prog 24 #[C.val] w fun e w' => e = .returned (.agg #[.string C.f, .string C.t, .int .i64 C.next, .bool C.once]) ∧ Fr [] w w' := by
  unfold Cu.val
  go_enter Try.func24, Try.ntmps24
  go_wp2_with fail
  refine bodyPost_ret (v := .agg #[.string C.f, .string C.t, .int .i64 C.next, .bool C.once]) (by simp [results, Try.results24, go_sem, *]) rfl ⟨rfl, ?_⟩
  with_reducible (repeat (first | exact Fr.refl _ _ | refine Fr.drew ?_ | refine Fr.alloc ?_ _))
theorem cur_resume (f t : ByteArray) (next : Int) (once : Bool) (w : World) : Calls Try.prog 23 #[.agg #[.string f, .string t, .int .i64 next, .bool once]] w fun e w' => e = .returned (Cu.val ⟨f, t, next, once, false⟩) ∧ Fr [] w w' := by
  unfold Cu.val
  go_enter Try.func23, Try.ntmps23
  go_wp2_with fail
  refine bodyPost_ret (v := .agg #[.string f, .string t, .int .i64 next, .bool once, .bool false]) (by simp [results, Try.results23, go_sem, *]) rfl ⟨rfl, ?_⟩
  with_reducible (repeat (first | exact Fr.refl _ _ | refine Fr.drew ?_ | refine Fr.alloc ?_ _))
end Go.Proofs.Ytmbfcdoemcffpaa
namespace Go.Proofs.Ytmbfcdoemcffpaa
open Go.RowKit
set_option linter.unusedVariables false
set_option linter.unusedSimpArgs false

theorem ref_zero {C : Cu} {rev hor : Int} (h : C.refE rev hor = 0) : C.dead = false ∧ ¬ C.next ≤ hor ∧ ¬ rev < C.next - 1 := by
  unfold Cu.refE at h
  split at h
  · simp at h
  · split at h
    · simp at h
    · split at h
      · simp at h
      · rename_i h1 h2 h3
        exact ⟨by simpa using h1, h2, h3⟩
theorem ref_not {C : Cu} {rev hor : Int} (h : C.refE rev hor ≠ 0) : C.dead = true ∨ C.next ≤ hor ∨ rev < C.next - 1 := by
  unfold Cu.refE at h
  split at h
  · rename_i h1; exact Or.inl h1
  · split at h
    · rename_i h1; exact Or.inr (Or.inl h1)
    · split at h
      · rename_i h1; exact Or.inr (Or.inr h1)
      · exact absurd rfl h
set_option maxHeartbeats 2000000 in
theorem cur_window (C : Cu) (seq rev hor most : Int) (w : World) (hn : Few40 C.next) (hr : Few40 rev) : Calls Try.prog 15 #[C.val, headV seq rev hor, .int .i64 most] w fun e w' => e = .returned (.int .i64 (C.win rev hor most)) ∧ Fr [] w w' := by
  have HN := Lib.hid hn
  have HR := Lib.hid hr
  obtain ⟨E, hE⟩ : ∃ E, E = C.refE rev hor := ⟨_, rfl⟩
  have HRZ := Lib.hid hE
  have CR := Lib.hid fun W => cur_refusal C seq rev hor W hn
  have CL := Lib.hid fun W => cur_last C W hn
  rw [← hE] at CR
  have h0 : E = 0 → C.win rev hor most = max (min (rev - (C.next - 1)) most) 0 := fun h => by
    rw [hE] at h
    obtain ⟨h1, h2, h3⟩ := ref_zero h
    unfold Cu.win
    rw [if_neg (by rw [h1]; simp; omega)]
    omega
  have h9 : E ≠ 0 → C.win rev hor most = 0 := fun h => by
    rw [hE] at h
    unfold Cu.win
    rw [if_pos (ref_not h)]
  have H0 := Lib.hid h0
  have H9 := Lib.hid h9
  obtain ⟨f, t, next, once, dead⟩ := C
  have q1 : IntKind.i64.wrap (rev - (next - 1)) = rev - (next - 1) := by have h1 := HN.out; have h2 := HR.out; unfold Few40 at h1 h2; simp only [IntKind.wrap, IntKind.signed, IntKind.bits]; simp at *; omega
  unfold Cu.val headV
  unfold Cu.val headV at CR
  unfold Cu.val at CL
  obtain ⟨wb, hwb⟩ : ∃ wb, wb = (w.alloc (Obj.cells #[.string f, .string t, .int .i64 next, .bool once, .bool dead] 31)).alloc (Obj.cells #[.int .i64 seq, .int .i64 rev, .int .i64 hor] 27) := ⟨_, rfl⟩
  have HWB := Lib.hid hwb
  obtain ⟨x0, x1, hf⟩ := two_boxes (w := w) (w1 := wb) (a := .cells #[.string f, .string t, .int .i64 next, .bool once, .bool dead] 31) (b := .cells #[.int .i64 seq, .int .i64 rev, .int .i64 hor] 27) (by rw [hwb]; exact Fr.refl _ _)
  have X0 := Lib.hid x0
  have X1 := Lib.hid x1
  have HF := Lib.hid hf
  clear hE h0 h9 hn hr hwb x0 x1 hf
  go_enter Try.func15, Try.ntmps15
  by_cases hE : E = 0
  · have HE := Lib.hid hE
    subst hE
    have hm : max 0 most = max most 0 := by omega
    go_wp2_with (go_at_call 35; rw [← HWB.out]; refine (CR.out _).mono ?_; rintro e w1 ⟨rfl, h1⟩; have H1 := Lib.hid h1; clear h1)
    obtain ⟨b0, b1, b2, b3, b4, _⟩ := cells5 (H1.out.keep X0.out (by simp))
    obtain ⟨c0, c1, c2, _⟩ := cells3 (H1.out.keep X1.out (by simp))
    have A0 := fun n : After [] w1 => n.cell b0 (by simp)
    have A1 := fun n : After [] w1 => n.cell b1 (by simp)
    have A2 := fun n : After [] w1 => n.cell b2 (by simp)
    have A3 := fun n : After [] w1 => n.cell b3 (by simp)
    have A4 := fun n : After [] w1 => n.cell b4 (by simp)
    have A5 := fun n : After [] w1 => n.cell c1 (by simp)
    go_wp2_with fail
    refine wp_region_after [] (by kernel_rfl) (by kernel_rfl) ?_
    repeat (go_big_quiet_step ((go_at_call 36; exact After.quiet (CL.out _))))
    refine wpQuiet_nil ?_
    rintro _ ⟨nq, rfl⟩
    go_wp2_with fail
    go_ret
    refine ⟨?_, HF.out.trans (H1.out.trans nq.fr (by simp)) (by simp)⟩
    rw [H0.out (by simp)]
    refine congrArg (fun x => Ending.returned (Value.int .i64 x)) ?_
    have h1 : 0 ≤ rev - (next - 1) := by
      have := (ref_zero (C := ⟨f, t, next, once, dead⟩) HRZ.out.symm).2.2
      simp at this; omega
    omega
  · have HE := Lib.hid hE
    have t0 : (E != 0) = true := by simpa using hE
    clear hE
    go_wp2_with (go_at_call 35; rw [← HWB.out]; refine (CR.out _).mono ?_; rintro e w1 ⟨rfl, h1⟩; have H1 := Lib.hid h1; clear h1)
    go_ret
    exact ⟨by rw [H9.out HE.out]; rfl, HF.out.trans H1.out (by simp)⟩
/-- what is told when a watch is opened -/
def HA.want (H : HA) (rev : Int) : Int := if rev = 0 then H.rows.length else rev
def HA.openC (H : HA) (rev : Int) (f t : ByteArray) : Cu := if H.atE (H.want rev) = 0 then ⟨f, t, H.want rev + 1, false, false⟩ else ⟨⟨#[]⟩, ⟨#[]⟩, 0, false, false⟩
set_option maxHeartbeats 2000000 in
theorem cur_open {w : World} {p : Nat} {S : List Nat} {H : HA} {n : Nat} (f t : ByteArray) (h : Hs w p S H) (hk : HOk H n) (hn : n ≤ 1000) : Calls Try.prog 20 #[.pointer (some ⟨p, 0, none⟩), .agg #[.string f, .string t], .int .i64 0] w fun e w' =>
    ∃ v, e = .returned (.tuple #[Cu.val ⟨f, t, H.rows.length + 1, false, false⟩, v, .int .i64 0]) ∧ LFar S Kv.cells 3 w' v (restrictK f t (mapN H.rows H.rows.length)) ∧ Fr [] w w' := by
  have hat : H.atE H.rows.length = 0 := atE_zero.2 ⟨by have := hk.hor; omega, by omega⟩
  have hal : H.atL H.rows.length f t = restrictK f t (mapN H.rows H.rows.length) := by unfold HA.atL; rw [if_pos hat]; rfl
  have HL := Lib.hid hal
  have HHR := Lib.hid fun W (hw : Fr [] w W) => hist_rev (h.keep hw (by simp))
  have HAT := Lib.hid fun W (hw : Fr [] w W) => hist_at (H.rows.length : Int) f t (h.keep hw (by simp)) hk hn
  rw [hat] at HAT
  have hrl : H.rows.length ≤ 1000 := by have := hk.rev; omega
  have q1 : IntKind.i64.wrap ((H.rows.length : Int) + 1) = (H.rows.length : Int) + 1 := by simp only [IntKind.wrap, IntKind.signed, IntKind.bits]; simp; omega
  unfold Cu.val
  clear h hk hat hal
  go_enter Try.func20, Try.ntmps20
  go_wp2_with (first
    | (go_at_call 21; refine (HHR.out _ (((Fr.refl [] w).alloc _).alloc _)).mono ?_; rintro e w1 ⟨rfl, rfl⟩)
    | (go_at_call 28; refine (HAT.out _ (((Fr.refl [] w).alloc _).alloc _)).mono ?_; rintro e w2 ⟨v, rfl, h1, h2, h3⟩; refine go_stop ?_))
  unfold Stop
  obtain ⟨s2, c2, hv, _, _⟩ := h1.form
  subst hv
  obtain ⟨x0, x1, hf⟩ := two_boxes h3
  obtain ⟨b0, b1, _⟩ := cells2 x0
  obtain ⟨d0, d1, d2, d3, d4, df⟩ := cells5 x1
  have df0 := df 0
  have df1 := df 1
  have df2 := df 2
  have df3 := df 3
  have df4 := df 4
  have H1 := Lib.hid h1
  have H2 := Lib.hid h2
  have HF := Lib.hid hf
  have HSL := Lib.hid (h1.2)
  clear h1 h2 h3 x0 x1 hf df
  go_wp2_with fail
  refine bodyPost_ret (v := .tuple #[.agg #[.string f, .string t, .int .i64 (H.rows.length + 1), .bool false, .bool false], .slice s2 (H.atL H.rows.length f t).length c2, .int .i64 0]) (by simp [results, Try.results20, go_sem, *]) rfl ?_
  have hst : Fr [w.heap.size + 1] w2 (((((w2.setCell ⟨w.heap.size + 1, 0, none⟩ (.string f)).setCell ⟨w.heap.size + 1, 1, none⟩ (.string t)).setCell ⟨w.heap.size + 1, 2, none⟩ (.int .i64 (H.rows.length + 1))).setCell ⟨w.heap.size + 1, 3, none⟩ (.bool false)).setCell ⟨w.heap.size + 1, 4, none⟩ (.bool false)) := by
    with_reducible (repeat (first | exact Fr.refl _ _ | refine Fr.setCell ?_ (Or.inl (by simp)) _))
  have hlf := (LFar.keep (S := [w.heap.size + 1]) ⟨H1.out.lin, fun _ k hk hm => by have := H2.out k hk; simp at this hm; omega⟩ hst).lin
  refine ⟨_, rfl, ?_, HF.out.trans hst (fun k hk => Or.inr (by simp at hk; omega))⟩
  rw [← HL.out]
  exact ⟨hlf, H1.out.2⟩
end Go.Proofs.Ytmbfcdoemcffpaa
