/- PACKAGE subidx: toward, measure, lift: contracts -/
import Derived.Test.YtcieokfjkfpajaaSiAt
import Derived.Deep.DeepCutAuto
namespace Go.Proofs.Ytcieokfjkfpajaa
open Go.RowKit
set_option linter.unusedVariables false
set_option linter.unusedSimpArgs false

set_option maxHeartbeats 1000000 in
theorem si_toward (n s : Sb) (b : Nat) (pl pr : Option Addr) (h : Int) (hu : Rg) (w : World) (hb : NodB w b s pl pr h hu) : Calls Try.prog 35 #[.pointer (some ⟨b, 0, none⟩), n.val] w fun e w' => e = .returned (.int .i64 (if lsS n s = true then 0 else 1)) ∧ Fr [] w w' := by
  obtain ⟨R, hR⟩ : ∃ R, R = (if lsS n s = true then (0 : Int) else 1) := ⟨_, rfl⟩
  rw [← hR]
  have HS := Lib.hid fun W => si_order n s W
  have h0 : (ordS n s < 0 ∧ R = 0) ∨ (¬ ordS n s < 0 ∧ R = 1) := by
    rw [hR]
    by_cases h : lsS n s = true
    · exact Or.inl ⟨(ordS_lt n s).2 h, by rw [if_pos h]⟩
    · exact Or.inr ⟨fun h2 => h ((ordS_lt n s).1 h2), by rw [if_neg h]⟩
  clear hR
  generalize ordS n s = O at *
  obtain ⟨ni, nr, nf, nt⟩ := n
  obtain ⟨si, sr, sf, st⟩ := s
  unfold Sb.val at *
  dsimp only at *
  obtain ⟨c0, c1, c2, c3, _⟩ := nod_cells hb
  have hlt := hb.lt
  have n1 : ¬ b = w.heap.size := by omega
  have n2 : ¬ w.heap.size = b := by omega
  have a0 := ((Fr.refl [] w).alloc (Obj.cells #[.int .i64 ni, .int .i64 nr, .string nf, .string nt] 41)).cell c0 (by simp)
  have a1 := ((Fr.refl [] w).alloc (Obj.cells #[.int .i64 ni, .int .i64 nr, .string nf, .string nt] 41)).cell c1 (by simp)
  have a2 := ((Fr.refl [] w).alloc (Obj.cells #[.int .i64 ni, .int .i64 nr, .string nf, .string nt] 41)).cell c2 (by simp)
  have a3 := ((Fr.refl [] w).alloc (Obj.cells #[.int .i64 ni, .int .i64 nr, .string nf, .string nt] 41)).cell c3 (by simp)
  obtain ⟨b0, b1, b2, b3, _⟩ := cells4 (new_block w (Obj.cells #[.int .i64 ni, .int .i64 nr, .string nf, .string nt] 41))
  obtain ⟨wb, hwb⟩ : ∃ wb, wb = w.alloc (Obj.cells #[.int .i64 ni, .int .i64 nr, .string nf, .string nt] 41) := ⟨_, rfl⟩
  have HF : Hid (Fr [] w wb) := Lib.hid (by rw [hwb]; exact (Fr.refl [] w).alloc _)
  rw [← hwb] at a0 a1 a2 a3 b0 b1 b2 b3
  have HWB := Lib.hid hwb
  have A0 := fun n : After [] wb => n.cell a0 (by simp)
  have A1 := fun n : After [] wb => n.cell a1 (by simp)
  have A2 := fun n : After [] wb => n.cell a2 (by simp)
  have A3 := fun n : After [] wb => n.cell a3 (by simp)
  have B0 := fun n : After [] wb => n.cell b0 (by simp)
  have B1 := fun n : After [] wb => n.cell b1 (by simp)
  have B2 := fun n : After [] wb => n.cell b2 (by simp)
  have B3 := fun n : After [] wb => n.cell b3 (by simp)
  clear hwb hb c0 c1 c2 c3 a0 a1 a2 a3 b0 b1 b2 b3
  rcases h0 with ⟨h0, rfl⟩ | ⟨h0, rfl⟩
  all_goals
    (first | (have t1 : decide (O < 0) = true := by simpa using h0) | (have t1 : decide (O < 0) = false := by simpa using h0))
    clear h0
    go_enter Try.func35, Try.ntmps35
    go_upto_region 1 with fail
    rw [← HWB.out]
    refine wp_region_after [] (by kernel_rfl) (by kernel_rfl) ?_
    repeat (go_big_quiet_step ((go_at_call 51; exact After.quiet (HS.out _))))
    refine wpQuiet_nil ?_
    rintro _ ⟨nq, rfl⟩
    go_wp2_with fail
    go_ret
    exact ⟨rfl, HF.out.trans nq.fr (by simp)⟩

end Go.Proofs.Ytcieokfjkfpajaa
