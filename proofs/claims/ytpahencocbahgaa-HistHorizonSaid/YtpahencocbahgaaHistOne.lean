/- PACKAGE hist: contracts of New, Rev, Hor, and of a Hist that is nil -/
import Derived.Test.YtpahencocbahgaaHistFun
namespace Go.Proofs.Ytpahencocbahgaa
open Go.RowKit Go.Maps
set_option linter.unusedVariables false
set_option linter.unusedSimpArgs false

theorem hist_rev {w : World} {p : Nat} {S : List Nat} {H : HA} (h : Hs w p S H) : Calls Try.prog 10 #[.pointer (some ⟨p, 0, none⟩)] w fun e w' => e = .returned (.int .i64 H.rows.length) ∧ w = w' := by
  obtain ⟨_, rm, km, n1, n2, R, M, _, _, h⟩ := h
  obtain ⟨c0, c1, c2, c3, _⟩ := cells4 h.blk
  clear h
  go_enter Try.func10, Try.ntmps10
  go_wp2_with (go_at_call 23; refine (span_last c1).mono ?_; rintro e w1 ⟨rfl, rfl⟩)
  go_ret
  exact ⟨rfl, rfl⟩
theorem hist_hor {w : World} {p : Nat} {S : List Nat} {H : HA} (h : Hs w p S H) : Calls Try.prog 13 #[.pointer (some ⟨p, 0, none⟩)] w fun e w' => e = .returned (.int .i64 H.hor) ∧ w = w' := by
  obtain ⟨_, rm, km, n1, n2, R, M, _, _, h⟩ := h
  obtain ⟨c0, c1, c2, c3, _⟩ := cells4 h.blk
  clear h
  go_enter Try.func13, Try.ntmps13
  go_wp2_with (go_at_call 25; refine (span_hor c0).mono ?_; rintro e w1 ⟨rfl, rfl⟩)
  go_ret
  exact ⟨rfl, rfl⟩
theorem hist_rev_nil (w : World) : Calls Try.prog 10 #[.pointer none] w fun e w' => e = .returned (.int .i64 0) ∧ w = w' := by
  go_enter Try.func10, Try.ntmps10
  go_wp2
  go_ret
  exact ⟨rfl, rfl⟩
theorem hist_hor_nil (w : World) : Calls Try.prog 13 #[.pointer none] w fun e w' => e = .returned (.int .i64 0) ∧ w = w' := by
  go_enter Try.func13, Try.ntmps13
  go_wp2
  go_ret
  exact ⟨rfl, rfl⟩
theorem hist_apply_nil (ov : Value) (w : World) : Calls Try.prog 16 #[.pointer none, ov] w fun e w' => e = .returned (.slice none 0 0) ∧ Fr [] w w' := by
  go_enter Try.func16, Try.ntmps16
  go_wp2
  go_ret
  exact ⟨rfl, Fr.refl _ _⟩
theorem hist_at_nil (rev : Int) (rv : Value) (w : World) : Calls Try.prog 11 #[.pointer none, .int .i64 rev, rv] w fun e w' => e = .returned (.tuple #[.slice none 0 0, .int .i64 1]) ∧ Fr [] w w' := by
  go_enter Try.func11, Try.ntmps11
  go_wp2
  all_goals refine bodyPost_ret (v := .tuple #[.slice none 0 0, .int .i64 1]) (by simp [results, Try.results11, go_sem]) rfl ?_
  all_goals refine ⟨rfl, ?_⟩
  all_goals first | exact Fr.refl _ _ | exact (Fr.refl _ _).alloc _
theorem hist_events_nil (rev : Int) (w : World) : Calls Try.prog 19 #[.pointer none, .int .i64 rev] w fun e w' => e = .returned (.tuple #[.slice none 0 0, .int .i64 1]) ∧ Fr [] w w' := by
  go_enter Try.func19, Try.ntmps19
  go_wp2
  refine bodyPost_ret (v := .tuple #[.slice none 0 0, .int .i64 1]) (by simp [results, Try.results19, go_sem]) rfl ?_
  refine ⟨rfl, ?_⟩
  first | exact Fr.refl _ _ | exact (Fr.refl _ _).alloc _
theorem hist_compact_nil (rev : Int) (w : World) : Calls Try.prog 17 #[.pointer none, .int .i64 rev] w fun e w' => e = .returned (.int .i64 1) ∧ Fr [] w w' := by
  go_enter Try.func17, Try.ntmps17
  go_wp2
  go_ret
  exact ⟨rfl, Fr.refl _ _⟩
theorem hist_copy_nil (w : World) : Calls Try.prog 18 #[.pointer none] w fun e w' => e = .returned (.pointer none) ∧ Fr [] w w' := by
  go_enter Try.func18, Try.ntmps18
  go_wp2
  go_ret
  exact ⟨rfl, Fr.refl _ _⟩
theorem hist_new (w : World) : Calls Try.prog 20 #[] w fun e w' => ∃ p S, e = .returned (.pointer (some ⟨p, 0, none⟩)) ∧ Hs w' p S HA.zero ∧ Fr [] w w' ∧ ∀ k ∈ S, w.heap.size ≤ k := by
  have hmm := @run_makeMap Try.prog
  go_enter Try.func20, Try.ntmps20
  go_wp2
  obtain ⟨b0, b1, b2, hf⟩ := three_boxes (S := []) (w := w) (a := .map #[] 0) (b := .map #[] 0) (c := .cells #[.int .i64 0, .int .i64 0, .map (some w.heap.size), .map (some (w.heap.size + 1))] 65) (by simp) (Fr.refl [] _)
  have m0 : MapG Try.prog 3 intD isSl _ w.heap.size 0 (fun _ => none) := (MapG.made Try.prog 3 intD isSl w).keep (((Fr.refl [] (w.alloc (.map #[] 0))).alloc (.map #[] 0)).alloc (.cells #[.int .i64 0, .int .i64 0, .map (some w.heap.size), .map (some (w.heap.size + 1))] 65)) (by simp)
  have m1 : MapG Try.prog 9 strD isSl _ (w.heap.size + 1) 0 (fun _ => none) := (by
    have := (MapG.made Try.prog 9 strD isSl (w.alloc (.map #[] 0))).keep ((Fr.refl [] ((w.alloc (.map #[] 0)).alloc (.map #[] 0))).alloc (.cells #[.int .i64 0, .int .i64 0, .map (some w.heap.size), .map (some (w.heap.size + 1))] 65)) (by simp)
    simpa using this)
  generalize ((w.alloc (.map #[] 0)).alloc (.map #[] 0)).alloc (.cells #[.int .i64 0, .int .i64 0, .map (some w.heap.size), .map (some (w.heap.size + 1))] 65) = w3 at *
  have hs := lt_of_block b2
  go_ret
  refine ⟨w.heap.size + 1 + 1, [w.heap.size, w.heap.size + 1, w.heap.size + 1 + 1], rfl, ⟨HWf.nil, w.heap.size, w.heap.size + 1, 0, 0, fun _ => none, fun _ => none, Nat.le_refl _, Nat.zero_le _, ?_⟩, hf, by simp; omega⟩
  exact ⟨b2, m0, m1, by simp, by intro i h1 h2; simp [HA.zero] at h2, fun k _ => rfl, by simp, by simp, by simp, by simp, by simp, by simp, by simp, by simp, by omega, by simp; omega⟩
end Go.Proofs.Ytpahencocbahgaa
