/- CONTRACT OF impostlaw01.awake: the document's example comes out. -/
import Derived.Test.YtpnoibgcnjbokaaMemRan
namespace Go.Proofs.Ytpnoibgcnjbokaa
open Go.RowKit
set_option linter.unusedVariables false
set_option linter.unusedSimpArgs false

section
variable (w : World) (p : Nat) {v : Value}
theorem aw1 (h : MemAt w p v ⟨[0, 0, 0, 0], 0⟩) : Calls Try.prog 17 #[.pointer (some ⟨p, 0, none⟩), .int .i64 3, .int .u64 5] w fun e w' => e = .returned (.int .i64 0) ∧ MemAt w' p v ⟨[0, 0, 0, 5], 1⟩ ∧ Fr (MemAt.foot p v) w w' :=
  store_any w p 3 5 h (by decide) (by decide)
theorem aw2 (h : MemAt w p v ⟨[0, 0, 0, 5], 1⟩) : Calls Try.prog 11 #[.pointer (some ⟨p, 0, none⟩), .int .i64 3, .int .u64 5, .int .u64 7] w fun e w' => e = .returned (.tuple #[.int .u64 5, .bool true]) ∧ MemAt w' p v ⟨[0, 0, 0, 7], 2⟩ ∧ Fr (MemAt.foot p v) w w' :=
  cas_any w p 3 5 7 h (by decide) (by decide)
theorem aw3 (h : MemAt w p v ⟨[0, 0, 0, 7], 2⟩) : Calls Try.prog 11 #[.pointer (some ⟨p, 0, none⟩), .int .i64 3, .int .u64 5, .int .u64 9] w fun e w' => e = .returned (.tuple #[.int .u64 7, .bool false]) ∧ MemAt w' p v ⟨[0, 0, 0, 7], 3⟩ ∧ Fr (MemAt.foot p v) w w' :=
  cas_any w p 3 5 9 h (by decide) (by decide)
theorem aw4 (h : MemAt w p v ⟨[0, 0, 0, 7], 3⟩) : Calls Try.prog 16 #[.pointer (some ⟨p, 0, none⟩), .int .i64 3, .int .u64 1] w fun e w' => e = .returned (.tuple #[.int .u64 7, .int .i64 0]) ∧ MemAt w' p v ⟨[0, 0, 0, 8], 4⟩ ∧ Fr (MemAt.foot p v) w w' :=
  add_any w p 3 1 h (by decide) (by decide)
theorem aw5 (h : MemAt w p v ⟨[0, 0, 0, 8], 4⟩) : Calls Try.prog 9 #[.pointer (some ⟨p, 0, none⟩), .int .i64 3] w fun e w' => e = .returned (.tuple #[.int .u64 8, .int .i64 0]) ∧ MemAt w' p v ⟨[0, 0, 0, 8], 5⟩ ∧ Fr (MemAt.foot p v) w w' :=
  (load_any w p 3 h (by decide) (by decide)).mono fun e w' ⟨a, b, c⟩ => ⟨a, b, c.mono (fun k hk => Or.inl (MemAt.p_in p v k hk))⟩
theorem aw6 (h : MemAt w p v ⟨[0, 0, 0, 8], 5⟩) : Calls Try.prog 12 #[.pointer (some ⟨p, 0, none⟩)] w fun e w' => e = .returned (.int .i64 5) ∧ w = w' := count_any w p h
theorem aw7 (h : MemAt w p v ⟨[0, 0, 0, 8], 5⟩) : Calls Try.prog 13 #[.pointer (some ⟨p, 0, none⟩)] w fun e w' => e = .returned (.int .i64 4) ∧ w = w' := len_any w p h
end

set_option maxRecDepth 100000 in
theorem awake_any (w : World) : Calls Try.prog 7 #[] w fun e w' => e = .returned (.bool true) ∧ Fr [] w w' := by
  go_enter Try.func7, Try.ntmps7
  go_wp2_with (go_at_call 15; refine (new_any w 4).mono ?_; intro e w1 h1; unfold MadeMem at h1; rw [if_pos (by omega)] at h1; obtain ⟨p, v, rfl, h1, h2, h3, h4⟩ := h1; refine go_stop ?_)
  have H1 : Hid (MemAt w1 p v ⟨[0, 0, 0, 0], 0⟩) := h1
  have hf : ∀ k ∈ MemAt.foot p v, w.heap.size ≤ k := by
    intro k hk
    simp only [MemAt.foot, List.mem_cons, Option.mem_toList] at hk
    rcases hk with rfl | hk
    · exact h3
    · exact h4 k hk
  have HF := Lib.hid hf
  have H2 := Lib.hid h2
  clear h1 h2 h3 h4 hf
  unfold Stop
  go_wp2_with (go_at_call 17; refine (aw1 _ p H1.out).mono ?_; rintro e w2 ⟨rfl, h, h'⟩; have G1 := Lib.hid h; have F1 := Lib.hid h'; clear h h'; refine go_stop ?_)
  unfold Stop
  go_wp2_with (go_at_call 11; refine (aw2 _ p G1.out).mono ?_; rintro e w3 ⟨rfl, h, h'⟩; have G2 := Lib.hid h; have F2 := Lib.hid h'; clear h h'; refine go_stop ?_)
  unfold Stop
  go_wp2_with (go_at_call 11; refine (aw3 _ p G2.out).mono ?_; rintro e w4 ⟨rfl, h, h'⟩; have G3 := Lib.hid h; have F3 := Lib.hid h'; clear h h'; refine go_stop ?_)
  unfold Stop
  go_wp2_with (go_at_call 16; refine (aw4 _ p G3.out).mono ?_; rintro e w5 ⟨rfl, h, h'⟩; have G4 := Lib.hid h; have F4 := Lib.hid h'; clear h h'; refine go_stop ?_)
  unfold Stop
  go_wp2_with (go_at_call 9; refine (aw5 _ p G4.out).mono ?_; rintro e w6 ⟨rfl, h, h'⟩; have G5 := Lib.hid h; have F5 := Lib.hid h'; clear h h'; refine go_stop ?_)
  unfold Stop
  go_wp2_with (first | (go_at_call 12; refine (aw6 _ p G5.out).mono ?_; rintro e w7 ⟨rfl, rfl⟩) | (go_at_call 13; refine (aw7 _ p G5.out).mono ?_; rintro e w7 ⟨rfl, rfl⟩))
  go_ret
  exact ⟨rfl, ((((H2.out.trans F1.out (fun k hk => Or.inr (HF.out k hk))).trans F2.out (fun k hk => Or.inr (HF.out k hk))).trans F3.out (fun k hk => Or.inr (HF.out k hk))).trans F4.out (fun k hk => Or.inr (HF.out k hk))).trans F5.out (fun k hk => Or.inr (HF.out k hk))⟩
end Go.Proofs.Ytpnoibgcnjbokaa
