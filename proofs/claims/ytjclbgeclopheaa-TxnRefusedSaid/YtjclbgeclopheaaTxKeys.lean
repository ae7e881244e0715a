/- PACKAGE txn: Keys: contract -/
import Derived.Test.YtjclbgeclopheaaTxMay
namespace Go.Proofs.Ytjclbgeclopheaa
open Go.RowKit
set_option linter.unusedVariables false
set_option linter.unusedSimpArgs false

theorem rows_three (w : World) (u v x : Value) (a b c : List ByteArray) (ha : StIn w u a) (hb : StIn w v b) (hc : StIn w x c) : Rows (w.alloc (.cells #[u, v, x] 32)) (.slice (some ⟨w.heap.size, 0, none⟩) 3 3) [(u, a), (v, b), (x, c)] := by
  refine ⟨⟨some ⟨w.heap.size, 0, none⟩, 3, rfl, Nat.le_refl _, by unfold maxLen; omega, fun _ => ⟨w.heap.size, 0, rfl, by simp, fun i y hy j hj => ?_⟩⟩, fun y hy => ?_⟩
  · have hi : i < 3 := by have := (List.getElem?_eq_some_iff.1 hy).1; simpa using this
    obtain rfl : j = 0 := by omega
    rw [cell_block (new_block w _)]
    rcases (by omega : i = 0 ∨ i = 1 ∨ i = 2) with rfl | rfl | rfl <;> (simp at hy; subst hy; rfl)
  · have hf := (Fr.refl [] w).alloc (.cells #[u, v, x] 32)
    simp at hy
    rcases hy with rfl | rfl | rfl
    · exact LIn.keep0 ha hf
    · exact LIn.keep0 hb hf
    · exact LIn.keep0 hc hf
theorem keysL_flat (q : Rq) (u v x : Value) : ([(u, q.cmps.map Cm.key), (v, q.thn.map Od.key), (x, q.els.map Od.key)] : List (Value × List ByteArray)).flatMap (·.2) = keysL q := by
  unfold keysL; simp
/-- a list's keys: where they lie -/
theorem keys_form {α : Type} {f : α → ByteArray} {l : List α} {P : Program} {F : FuncId} {args : Array Value} {w : World} (h : Calls P F args w fun e w' => ∃ v, e = .returned v ∧ OutAt stC 9 1 w w' v (l.map f) ∧ Fr [] w w') :
    Calls P F args w fun e w' => ∃ s c, e = .returned (.slice s l.length c) ∧ StIn w' (.slice s l.length c) (l.map f) ∧ Fr [] w w' := by
  refine h.mono ?_
  rintro e w' ⟨v, rfl, ho, hf⟩
  obtain ⟨s, c, hv, _⟩ := ho.lies.form
  rw [List.length_map] at hv
  subst hv
  exact ⟨s, c, rfl, LAt.read ho.lies stC_len, hf⟩
theorem drew_trans {a b : World} (h : Fr [] a.drew b) : Fr [] a b := ((Fr.refl [] a).drew).trans h (by simp)
set_option maxHeartbeats 2000000 in
theorem txn_keysG (q : Rq) (cv tv ev : Value) (w : World) (h : RqIn w q cv tv ev) (b0 : q.cmps.length ≤ 20) (b1 : q.thn.length ≤ 20) (b2 : q.els.length ≤ 20) : Calls Try.prog 11 #[.agg #[.int .i64 q.kind, .string q.f, .string q.t, .int .i64 q.rev, cv, tv, ev]] w fun e w' =>
    ∃ v ks, e = .returned v ∧ StIn w' v ks ∧ Gath (keysL q) ks ∧ Fr [] w w' := by
  obtain ⟨wb, hwb⟩ : ∃ wb, wb = w.alloc (rqB q cv tv ev) := ⟨_, rfl⟩
  have HWB : Hid (wb = w.alloc (.cells #[.int .i64 q.kind, .string q.f, .string q.t, .int .i64 q.rev, cv, tv, ev] 28)) := Lib.hid hwb
  have HF : Hid (Fr [] w wb) := Lib.hid (by rw [hwb]; exact (Fr.refl [] w).alloc _)
  have HR := Lib.hid (h.keep0 HF.out)
  obtain ⟨_, _, _, _, c4, c5, c6, _⟩ := cells7 (show wb.heap[w.heap.size]? = some (.cells #[.int .i64 q.kind, .string q.f, .string q.t, .int .i64 q.rev, cv, tv, ev] 28 (0, 0)) by rw [hwb]; exact new_block w _)
  have HC : Hid (∀ X, Fr [] wb X → Calls Try.prog 26 #[cv] X fun e w' => ∃ s c, e = .returned (.slice s q.cmps.length c) ∧ StIn w' (.slice s q.cmps.length c) (q.cmps.map Cm.key) ∧ Fr [] X w') := Lib.hid fun X hX => keys_form (tx_compared cv q.cmps X (LIn.keep0 HR.out.c hX) (by unfold many; omega))
  have HT : Hid (∀ X, Fr [] wb X → Calls Try.prog 27 #[tv] X fun e w' => ∃ s c, e = .returned (.slice s q.thn.length c) ∧ StIn w' (.slice s q.thn.length c) (q.thn.map Od.key) ∧ Fr [] X w') := Lib.hid fun X hX => keys_form (tx_changed tv q.thn X (LIn.keep0 HR.out.t hX) (by unfold many; omega))
  have HE : Hid (∀ X, Fr [] wb X → Calls Try.prog 27 #[ev] X fun e w' => ∃ s c, e = .returned (.slice s q.els.length c) ∧ StIn w' (.slice s q.els.length c) (q.els.map Od.key) ∧ Fr [] X w') := Lib.hid fun X hX => keys_form (tx_changed ev q.els X (LIn.keep0 HR.out.e hX) (by unfold many; omega))
  clear hwb h
  go_enter Try.func11, Try.ntmps11
  go_wp2_with fail
  rw [← HWB.out]
  have M : Hid True := Lib.hid trivial
  go_region_held3 (fun w' => w'.cell? ⟨w.heap.size, 4, none⟩ = some cv ∧ w'.cell? ⟨w.heap.size, 5, none⟩ = some tv ∧ w'.cell? ⟨w.heap.size, 6, none⟩ = some ev) (first | go_keep | (exact ⟨by assumption, by assumption, by assumption⟩)) (first
    | (go_at_call 26; refine (HC.out _ (by first | exact (Fr.refl _ _).drew | exact Fr.refl _ _)).mono ?_; rintro e w1 ⟨s1, k1, rfl, ho, hf⟩; have F1 := Lib.hid (drew_trans hf); have H1 := Lib.hid ho; have e4 := F1.out.cell c4 (by simp); have e5 := F1.out.cell c5 (by simp); have e6 := F1.out.cell c6 (by simp); clear ho hf c4 c5 c6)
    | (go_at_call 27; have hm := M.out; clear hm M; refine (HT.out _ (by first | exact F1.out | exact F1.out.drew)).mono ?_; rintro e w2 ⟨s2, k2, rfl, ho, hf⟩; have F2 := Lib.hid (F1.out.trans hf (by simp)); have G2 := Lib.hid hf; have H2 := Lib.hid ho; have g4 := hf.cell e4 (by simp); have g5 := hf.cell e5 (by simp); have g6 := hf.cell e6 (by simp); clear ho hf e4 e5 e6)
    | (go_at_call 27; refine (HE.out _ (by first | exact F2.out | exact F2.out.drew)).mono ?_; rintro e w3 ⟨s3, k3, rfl, ho, hf⟩; have F3 := Lib.hid (F2.out.trans hf (by simp)); have G3 := Lib.hid hf; have H3 := Lib.hid ho; have i4 := hf.cell g4 (by simp); have i5 := hf.cell g5 (by simp); have i6 := hf.cell g6 (by simp); clear ho hf g4 g5 g6)
    | (go_at_call 25; refine (tx_gather _ [(.slice s1 q.cmps.length k1, q.cmps.map Cm.key), (.slice s2 q.thn.length k2, q.thn.map Od.key), (.slice s3 q.els.length k3, q.els.map Od.key)] _ (rows_three w3 _ _ _ _ _ _ (LIn.keep0 H1.out (G2.out.trans G3.out (by simp))) (LIn.keep0 H2.out G3.out) H3.out) (by unfold many; simp) (by unfold many; simp [total]; omega)).mono ?_; rintro e w4 ⟨v4, ks, rfl, h4, hg, hf⟩; have H4 := Lib.hid h4; have HG := Lib.hid hg; have F4 := Lib.hid ((F3.out.alloc _).trans hf (by simp)); have j4 := ((Fr.refl [] w3).alloc _).cell i4 (by simp) |> fun h => hf.cell h (by simp); have j5 := ((Fr.refl [] w3).alloc _).cell i5 (by simp) |> fun h => hf.cell h (by simp); have j6 := ((Fr.refl [] w3).alloc _).cell i6 (by simp) |> fun h => hf.cell h (by simp); clear h4 hg hf i4 i5 i6))
  go_wp2
  go_ret
  refine ⟨_, ks, rfl, H4.out, ?_, HF.out.trans F4.out (by simp)⟩
  rw [← keysL_flat]; exact HG.out
end Go.Proofs.Ytjclbgeclopheaa
