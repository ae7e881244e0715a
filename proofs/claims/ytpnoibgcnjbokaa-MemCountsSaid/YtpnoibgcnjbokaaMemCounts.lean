/- Each of the four calls counts one where there is the cell; growing and peeking do not, and peeking tells what loading does: for every list of deeds and every deed. No condition. -/
import Derived.Test.YtpnoibgcnjbokaaMemLaw
namespace Go.Proofs.Ytpnoibgcnjbokaa.lawMemCounts
open Go.ChangeShapes Go.WideShapes Go.ChangeAt Go.RowKit Go.Deep
set_option linter.unusedVariables false
set_option linter.unusedSimpArgs false

set_option maxHeartbeats 4000000 in
set_option maxRecDepth 1000000 in
theorem walk (a0 : Option Addr) (len0 cap0 : Nat) (kind da old x : Int) (w : World) (w0 : IsDeeds w a0 len0 cap0) :
    Calls Try.prog 5 #[.slice a0 len0 cap0, .agg #[.int .i64 kind, .int .i64 da, .int .u64 old, .int .u64 x]] w fun e w' => e = .returned (.bool true) ∧ Below w.heap.size w w' := by
  have HD := Lib.hid w0
  clear w0
  go_enter Try.func5, Try.ntmps5
  go_wp2_with (first | (go_at_call 7; refine (awake_any _).mono ?_; rintro e w1 ⟨rfl, h1⟩; have HB := Lib.hid (h1.keep (new_block w _) (by simp)); have HA := Lib.hid (((Fr.refl [] w).alloc _).trans h1 (by simp)); clear h1) | (go_at_call 8; refine (ran_any _ _ _ _ (HD.out.keep HA.out)).mono ?_; rintro e w2 ⟨p, mv, m, rfl, g1, g2, g3, g4, g5, g6⟩; refine go_stop ?_))
  have hp1 : w.heap.size < w1.heap.size := lt_of_block HB.out
  have HF := Lib.hid (show ∀ g ∈ MemAt.foot p mv, w.heap.size < g from fun g hg => by have := g3 g hg; omega)
  have H1 := Lib.hid g1
  have HF2 := Lib.hid (HA.out.trans g2 (by simp))
  have HB2 := Lib.hid (g2.keep HB.out (by simp))
  have hm8 := g4
  have hm5 := g5
  have HN := Lib.hid g6
  have hmn := g6
  have HFB := Lib.hid (show w.heap.size ∉ MemAt.foot p mv from fun h => by have := HF.out _ h; omega)
  have HLEN : Hid (∀ W, Fr [] w2 W → Calls Try.prog 13 #[.pointer (some ⟨p, 0, none⟩)] W fun e w' => e = .returned (.int .i64 m.c.length) ∧ W = w') := fun W hW => len_any W p (H1.out.keep hW (by simp) (by simp))
  have HDO : Hid (∀ W, Fr [] w2 W → ∀ g, Ref W (.slice (some ⟨g, 0, none⟩) m.c.length m.c.length) (List.replicate m.c.length 0) → w2.heap.size ≤ g → Calls Try.prog 10 #[.pointer (some ⟨p, 0, none⟩), .agg #[.slice (some ⟨g, 0, none⟩) m.c.length m.c.length, .int .i64 0], .agg #[.int .i64 kind, .int .i64 da, .int .u64 old, .int .u64 x]] W (DoPost W p mv (.slice (some ⟨g, 0, none⟩) m.c.length m.c.length) (m.deed kind da old x) (List.replicate m.c.length (0 : Int)).length 0)) := by
    intro W hW g hr hg
    have hboth : Both W p mv (.slice (some ⟨g, 0, none⟩) m.c.length m.c.length) m (List.replicate m.c.length 0) := by
      refine ⟨H1.out.keep hW (by simp) (by simp), hr, ?_⟩
      intro g' hg' hm
      simp [Value.ownBlock] at hg'
      have := H1.out.foot_lt g' hm; omega
    exact do_any W p kind da old x 0 hboth (by omega) (by have := HN.out; omega) (by simp; omega) (by omega) (by omega)
  have c0 := cell_block HB2.out 0
  have c1 := cell_block HB2.out 1
  have c2 := cell_block HB2.out 2
  have c3 := cell_block HB2.out 3
  simp at c0 c1 c2 c3
  have hw2 : w.heap.size < w2.heap.size := lt_of_block HB2.out
  have hmk : ∀ w, (Instr.makeSlice 32 (.int .i64 (m.c.length : Int)) (.int .i64 (m.c.length : Int))).run Try.prog w = .ok (.slice (some ⟨w.heap.size, 0, none⟩) m.c.length m.c.length) (w.alloc (.cells (zeros m.c.length) 23)) := fun w => make_words w m.c.length (by omega)
  clear g1 g2 g3 g4 g5 g6
  unfold Stop
  go_wp2_with (go_at_call 12; refine (count_any _ p H1.out).mono ?_; rintro e w3 ⟨rfl, rfl⟩)
  by_cases h1 : 0 ≤ da
  · by_cases h2 : da < m.c.length
    · by_cases h3 : 1 ≤ kind
      · by_cases h4 : kind ≤ 4
        · have t1 : decide (0 ≤ da) = true := by simpa using h1
          have t2 : decide (da < (m.c.length : Int)) = true := by simpa using h2
          have t3 : decide (1 ≤ kind) = true := by simpa using h3
          have t4 : decide (kind ≤ 4) = true := by simpa using h4
          have HQ : Hid (((m.deed kind da old x).n : Int) = (m.n : Int) + 1) := by
            rw [m.deed_cnt kind da old x, if_pos ⟨MS.has_of h1 h2, h3, h4⟩]; rfl
          go_quiet ((go_at_call 13; exact quiet_eq (HLEN.out _ ((Fr.refl _ _).drewN _))))
          go_wp2_with fail
          go_region_held3 (fun w' => w'.cell? ⟨w.heap.size, 0, none⟩ = some (.int .i64 kind) ∧ w'.cell? ⟨w.heap.size, 1, none⟩ = some (.int .i64 da) ∧ w'.cell? ⟨w.heap.size, 2, none⟩ = some (.int .u64 old) ∧ w'.cell? ⟨w.heap.size, 3, none⟩ = some (.int .u64 x)) (go_keep)
            (first | (go_at_call 13; refine (HLEN.out _ (by exact ((Fr.refl _ _).drewN _).drew)).mono ?_; rintro e w9 ⟨rfl, rfl⟩) | (go_at_call 10; refine (HDO.out _ (by exact ((Fr.refl _ _).drewN _).alloc _) _ (by exact own_zeros (w2.drewN (nq + 1)) m.c.length _ rfl (by omega)) (Nat.le_refl _)).mono ?_; rintro e w5 ⟨mv', v', k', b, cs', rfl, q1, q2, q3, q4, q5, q6⟩; have c0' := q4.cell (by exact (World.cell?_alloc_past _ _ _ hw2).trans c0) HFB.out; have c1' := q4.cell (by exact (World.cell?_alloc_past _ _ _ hw2).trans c1) HFB.out; have c2' := q4.cell (by exact (World.cell?_alloc_past _ _ _ hw2).trans c2) HFB.out; have c3' := q4.cell (by exact (World.cell?_alloc_past _ _ _ hw2).trans c3) HFB.out; have HQ1 := Lib.hid q1; have HF5 := Lib.hid ((HF2.out.trans (((Fr.refl [] w2).drewN (nq + 1)).alloc _) (by simp)).trans q4 (fun g hg => Or.inr (Nat.le_of_lt (HF.out g hg)))); clear q1 q2 q3 q4 q5 q6))
          have HPK := Lib.hid (peek_any w5 p da HQ1.out.mem (by have := m.deed_len kind da old x; omega))
          have HCT := Lib.hid (count_any w5 p HQ1.out.mem)
          have HLD := Lib.hid (load_any w5 p da HQ1.out.mem (by have := m.deed_len kind da old x; omega) (by have := m.deed_len kind da old x; have := HN.out; omega))
          obtain ⟨y, hy⟩ : ∃ y, y = (m.deed kind da old x).at da := ⟨_, rfl⟩
          obtain ⟨er, her⟩ : ∃ er, er = (m.deed kind da old x).err da := ⟨_, rfl⟩
          rw [← hy, ← her] at HPK HLD
          have hz1 : (y == y) = true := by simp
          have hz2 : (er == er) = true := by simp
          clear hy her
          go_wp2_with (first | (go_at_call 14; refine HPK.out.mono ?_; rintro e w6 ⟨rfl, rfl⟩) | (go_at_call 12; refine HCT.out.mono ?_; rintro e w6 ⟨rfl, rfl⟩; rw [HQ.out]) | (go_at_call 9; refine HLD.out.mono ?_; rintro e w6 ⟨rfl, _, h2⟩; have HL := Lib.hid h2; clear h2))
          go_ret
          exact ⟨rfl, (HF5.out.trans HL.out (fun g hg => Or.inr (Nat.le_of_lt (HF.out g (MemAt.p_in p mv g hg))))).below (Nat.le_refl _) (by simp)⟩
        · have t1 : decide (0 ≤ da) = true := by simpa using h1
          have t2 : decide (da < (m.c.length : Int)) = true := by simpa using h2
          have t3 : decide (1 ≤ kind) = true := by simpa using h3
          have t4 : decide (kind ≤ 4) = false := by simpa using h4
          have HQ : Hid (((m.deed kind da old x).n : Int) = m.n) := by
            rw [m.deed_cnt kind da old x, if_neg (by intro h; have := of_decide_eq_true h.1; omega)]; rfl
          go_quiet ((go_at_call 13; exact quiet_eq (HLEN.out _ ((Fr.refl _ _).drewN _))))
          go_wp2_with fail
          go_region_held3 (fun w' => w'.cell? ⟨w.heap.size, 0, none⟩ = some (.int .i64 kind) ∧ w'.cell? ⟨w.heap.size, 1, none⟩ = some (.int .i64 da) ∧ w'.cell? ⟨w.heap.size, 2, none⟩ = some (.int .u64 old) ∧ w'.cell? ⟨w.heap.size, 3, none⟩ = some (.int .u64 x)) (go_keep)
            (first | (go_at_call 13; refine (HLEN.out _ (by exact ((Fr.refl _ _).drewN _).drew)).mono ?_; rintro e w9 ⟨rfl, rfl⟩) | (go_at_call 10; refine (HDO.out _ (by exact ((Fr.refl _ _).drewN _).alloc _) _ (by exact own_zeros (w2.drewN (nq + 1)) m.c.length _ rfl (by omega)) (Nat.le_refl _)).mono ?_; rintro e w5 ⟨mv', v', k', b, cs', rfl, q1, q2, q3, q4, q5, q6⟩; have c0' := q4.cell (by exact (World.cell?_alloc_past _ _ _ hw2).trans c0) HFB.out; have c1' := q4.cell (by exact (World.cell?_alloc_past _ _ _ hw2).trans c1) HFB.out; have c2' := q4.cell (by exact (World.cell?_alloc_past _ _ _ hw2).trans c2) HFB.out; have c3' := q4.cell (by exact (World.cell?_alloc_past _ _ _ hw2).trans c3) HFB.out; have HQ1 := Lib.hid q1; have HF5 := Lib.hid ((HF2.out.trans (((Fr.refl [] w2).drewN (nq + 1)).alloc _) (by simp)).trans q4 (fun g hg => Or.inr (Nat.le_of_lt (HF.out g hg)))); clear q1 q2 q3 q4 q5 q6))
          have HPK := Lib.hid (peek_any w5 p da HQ1.out.mem (by have := m.deed_len kind da old x; omega))
          have HCT := Lib.hid (count_any w5 p HQ1.out.mem)
          have HLD := Lib.hid (load_any w5 p da HQ1.out.mem (by have := m.deed_len kind da old x; omega) (by have := m.deed_len kind da old x; have := HN.out; omega))
          obtain ⟨y, hy⟩ : ∃ y, y = (m.deed kind da old x).at da := ⟨_, rfl⟩
          obtain ⟨er, her⟩ : ∃ er, er = (m.deed kind da old x).err da := ⟨_, rfl⟩
          rw [← hy, ← her] at HPK HLD
          have hz1 : (y == y) = true := by simp
          have hz2 : (er == er) = true := by simp
          clear hy her
          go_wp2_with (first | (go_at_call 14; refine HPK.out.mono ?_; rintro e w6 ⟨rfl, rfl⟩) | (go_at_call 12; refine HCT.out.mono ?_; rintro e w6 ⟨rfl, rfl⟩; rw [HQ.out]) | (go_at_call 9; refine HLD.out.mono ?_; rintro e w6 ⟨rfl, _, h2⟩; have HL := Lib.hid h2; clear h2))
          go_ret
          exact ⟨rfl, (HF5.out.trans HL.out (fun g hg => Or.inr (Nat.le_of_lt (HF.out g (MemAt.p_in p mv g hg))))).below (Nat.le_refl _) (by simp)⟩
      · have t1 : decide (0 ≤ da) = true := by simpa using h1
        have t2 : decide (da < (m.c.length : Int)) = true := by simpa using h2
        have t3 : decide (1 ≤ kind) = false := by simpa using h3
        have HQ : Hid (((m.deed kind da old x).n : Int) = m.n) := by
          rw [m.deed_cnt kind da old x, if_neg (by intro h; have := of_decide_eq_true h.1; omega)]; rfl
        go_quiet ((go_at_call 13; exact quiet_eq (HLEN.out _ ((Fr.refl _ _).drewN _))))
        go_wp2_with fail
        go_region_held3 (fun w' => w'.cell? ⟨w.heap.size, 0, none⟩ = some (.int .i64 kind) ∧ w'.cell? ⟨w.heap.size, 1, none⟩ = some (.int .i64 da) ∧ w'.cell? ⟨w.heap.size, 2, none⟩ = some (.int .u64 old) ∧ w'.cell? ⟨w.heap.size, 3, none⟩ = some (.int .u64 x)) (go_keep)
          (first | (go_at_call 13; refine (HLEN.out _ (by exact ((Fr.refl _ _).drewN _).drew)).mono ?_; rintro e w9 ⟨rfl, rfl⟩) | (go_at_call 10; refine (HDO.out _ (by exact ((Fr.refl _ _).drewN _).alloc _) _ (by exact own_zeros (w2.drewN (nq + 1)) m.c.length _ rfl (by omega)) (Nat.le_refl _)).mono ?_; rintro e w5 ⟨mv', v', k', b, cs', rfl, q1, q2, q3, q4, q5, q6⟩; have c0' := q4.cell (by exact (World.cell?_alloc_past _ _ _ hw2).trans c0) HFB.out; have c1' := q4.cell (by exact (World.cell?_alloc_past _ _ _ hw2).trans c1) HFB.out; have c2' := q4.cell (by exact (World.cell?_alloc_past _ _ _ hw2).trans c2) HFB.out; have c3' := q4.cell (by exact (World.cell?_alloc_past _ _ _ hw2).trans c3) HFB.out; have HQ1 := Lib.hid q1; have HF5 := Lib.hid ((HF2.out.trans (((Fr.refl [] w2).drewN (nq + 1)).alloc _) (by simp)).trans q4 (fun g hg => Or.inr (Nat.le_of_lt (HF.out g hg)))); clear q1 q2 q3 q4 q5 q6))
        have HPK := Lib.hid (peek_any w5 p da HQ1.out.mem (by have := m.deed_len kind da old x; omega))
        have HCT := Lib.hid (count_any w5 p HQ1.out.mem)
        have HLD := Lib.hid (load_any w5 p da HQ1.out.mem (by have := m.deed_len kind da old x; omega) (by have := m.deed_len kind da old x; have := HN.out; omega))
        obtain ⟨y, hy⟩ : ∃ y, y = (m.deed kind da old x).at da := ⟨_, rfl⟩
        obtain ⟨er, her⟩ : ∃ er, er = (m.deed kind da old x).err da := ⟨_, rfl⟩
        rw [← hy, ← her] at HPK HLD
        have hz1 : (y == y) = true := by simp
        have hz2 : (er == er) = true := by simp
        clear hy her
        go_wp2_with (first | (go_at_call 14; refine HPK.out.mono ?_; rintro e w6 ⟨rfl, rfl⟩) | (go_at_call 12; refine HCT.out.mono ?_; rintro e w6 ⟨rfl, rfl⟩; rw [HQ.out]) | (go_at_call 9; refine HLD.out.mono ?_; rintro e w6 ⟨rfl, _, h2⟩; have HL := Lib.hid h2; clear h2))
        go_ret
        exact ⟨rfl, (HF5.out.trans HL.out (fun g hg => Or.inr (Nat.le_of_lt (HF.out g (MemAt.p_in p mv g hg))))).below (Nat.le_refl _) (by simp)⟩
    · have t1 : decide (0 ≤ da) = true := by simpa using h1
      have t2 : decide (da < (m.c.length : Int)) = false := by simpa using h2
      have HQ : Hid (((m.deed kind da old x).n : Int) = m.n) := by
        rw [m.deed_cnt kind da old x, if_neg (by intro h; have := of_decide_eq_true h.1; omega)]; rfl
      go_quiet ((go_at_call 13; exact quiet_eq (HLEN.out _ ((Fr.refl _ _).drewN _))))
      go_wp2_with fail
      go_region_held3 (fun w' => w'.cell? ⟨w.heap.size, 0, none⟩ = some (.int .i64 kind) ∧ w'.cell? ⟨w.heap.size, 1, none⟩ = some (.int .i64 da) ∧ w'.cell? ⟨w.heap.size, 2, none⟩ = some (.int .u64 old) ∧ w'.cell? ⟨w.heap.size, 3, none⟩ = some (.int .u64 x)) (go_keep)
        (first | (go_at_call 13; refine (HLEN.out _ (by exact ((Fr.refl _ _).drewN _).drew)).mono ?_; rintro e w9 ⟨rfl, rfl⟩) | (go_at_call 10; refine (HDO.out _ (by exact ((Fr.refl _ _).drewN _).alloc _) _ (by exact own_zeros (w2.drewN (nq + 1)) m.c.length _ rfl (by omega)) (Nat.le_refl _)).mono ?_; rintro e w5 ⟨mv', v', k', b, cs', rfl, q1, q2, q3, q4, q5, q6⟩; have c0' := q4.cell (by exact (World.cell?_alloc_past _ _ _ hw2).trans c0) HFB.out; have c1' := q4.cell (by exact (World.cell?_alloc_past _ _ _ hw2).trans c1) HFB.out; have c2' := q4.cell (by exact (World.cell?_alloc_past _ _ _ hw2).trans c2) HFB.out; have c3' := q4.cell (by exact (World.cell?_alloc_past _ _ _ hw2).trans c3) HFB.out; have HQ1 := Lib.hid q1; have HF5 := Lib.hid ((HF2.out.trans (((Fr.refl [] w2).drewN (nq + 1)).alloc _) (by simp)).trans q4 (fun g hg => Or.inr (Nat.le_of_lt (HF.out g hg)))); clear q1 q2 q3 q4 q5 q6))
      have HPK := Lib.hid (peek_any w5 p da HQ1.out.mem (by have := m.deed_len kind da old x; omega))
      have HCT := Lib.hid (count_any w5 p HQ1.out.mem)
      have HLD := Lib.hid (load_any w5 p da HQ1.out.mem (by have := m.deed_len kind da old x; omega) (by have := m.deed_len kind da old x; have := HN.out; omega))
      obtain ⟨y, hy⟩ : ∃ y, y = (m.deed kind da old x).at da := ⟨_, rfl⟩
      obtain ⟨er, her⟩ : ∃ er, er = (m.deed kind da old x).err da := ⟨_, rfl⟩
      rw [← hy, ← her] at HPK HLD
      have hz1 : (y == y) = true := by simp
      have hz2 : (er == er) = true := by simp
      clear hy her
      go_wp2_with (first | (go_at_call 14; refine HPK.out.mono ?_; rintro e w6 ⟨rfl, rfl⟩) | (go_at_call 12; refine HCT.out.mono ?_; rintro e w6 ⟨rfl, rfl⟩; rw [HQ.out]) | (go_at_call 9; refine HLD.out.mono ?_; rintro e w6 ⟨rfl, _, h2⟩; have HL := Lib.hid h2; clear h2))
      go_ret
      exact ⟨rfl, (HF5.out.trans HL.out (fun g hg => Or.inr (Nat.le_of_lt (HF.out g (MemAt.p_in p mv g hg))))).below (Nat.le_refl _) (by simp)⟩
  · have t1 : decide (0 ≤ da) = false := by simpa using h1
    have HQ : Hid (((m.deed kind da old x).n : Int) = m.n) := by
      rw [m.deed_cnt kind da old x, if_neg (by intro h; have := of_decide_eq_true h.1; omega)]; rfl
    go_quiet ((go_at_call 13; exact quiet_eq (HLEN.out _ ((Fr.refl _ _).drewN _))))
    go_wp2_with fail
    go_region_held3 (fun w' => w'.cell? ⟨w.heap.size, 0, none⟩ = some (.int .i64 kind) ∧ w'.cell? ⟨w.heap.size, 1, none⟩ = some (.int .i64 da) ∧ w'.cell? ⟨w.heap.size, 2, none⟩ = some (.int .u64 old) ∧ w'.cell? ⟨w.heap.size, 3, none⟩ = some (.int .u64 x)) (go_keep)
      (first | (go_at_call 13; refine (HLEN.out _ (by exact ((Fr.refl _ _).drewN _).drew)).mono ?_; rintro e w9 ⟨rfl, rfl⟩) | (go_at_call 10; refine (HDO.out _ (by exact ((Fr.refl _ _).drewN _).alloc _) _ (by exact own_zeros (w2.drewN (nq + 1)) m.c.length _ rfl (by omega)) (Nat.le_refl _)).mono ?_; rintro e w5 ⟨mv', v', k', b, cs', rfl, q1, q2, q3, q4, q5, q6⟩; have c0' := q4.cell (by exact (World.cell?_alloc_past _ _ _ hw2).trans c0) HFB.out; have c1' := q4.cell (by exact (World.cell?_alloc_past _ _ _ hw2).trans c1) HFB.out; have c2' := q4.cell (by exact (World.cell?_alloc_past _ _ _ hw2).trans c2) HFB.out; have c3' := q4.cell (by exact (World.cell?_alloc_past _ _ _ hw2).trans c3) HFB.out; have HQ1 := Lib.hid q1; have HF5 := Lib.hid ((HF2.out.trans (((Fr.refl [] w2).drewN (nq + 1)).alloc _) (by simp)).trans q4 (fun g hg => Or.inr (Nat.le_of_lt (HF.out g hg)))); clear q1 q2 q3 q4 q5 q6))
    have HPK := Lib.hid (peek_any w5 p da HQ1.out.mem (by have := m.deed_len kind da old x; omega))
    have HCT := Lib.hid (count_any w5 p HQ1.out.mem)
    have HLD := Lib.hid (load_any w5 p da HQ1.out.mem (by have := m.deed_len kind da old x; omega) (by have := m.deed_len kind da old x; have := HN.out; omega))
    obtain ⟨y, hy⟩ : ∃ y, y = (m.deed kind da old x).at da := ⟨_, rfl⟩
    obtain ⟨er, her⟩ : ∃ er, er = (m.deed kind da old x).err da := ⟨_, rfl⟩
    rw [← hy, ← her] at HPK HLD
    have hz1 : (y == y) = true := by simp
    have hz2 : (er == er) = true := by simp
    clear hy her
    go_wp2_with (first | (go_at_call 14; refine HPK.out.mono ?_; rintro e w6 ⟨rfl, rfl⟩) | (go_at_call 12; refine HCT.out.mono ?_; rintro e w6 ⟨rfl, rfl⟩; rw [HQ.out]) | (go_at_call 9; refine HLD.out.mono ?_; rintro e w6 ⟨rfl, _, h2⟩; have HL := Lib.hid h2; clear h2))
    go_ret
    exact ⟨rfl, (HF5.out.trans HL.out (fun g hg => Or.inr (Nat.le_of_lt (HF.out g (MemAt.p_in p mv g hg))))).below (Nat.le_refl _) (by simp)⟩

set_option maxRecDepth 100000 in
theorem contract (H : Type) (enc : TypeId × Value → H) (W : World) (base : Nat) (args : Array Value) (ds gs : List (DataW H)) (before : List MemPlace)
    (hval0 : ∀ (j : Nat) t v, Try.f5.params[j]? = some t → args[j]? = some v → Value.okWide Try.prog W .any base t v)
    (hW : DataW.Whole enc Try.prog Try.f5.params.toList Rows.memCountsSpec.vars false W args.toList ds gs before) :
    Calls Try.prog 5 args W fun e W' => ∃ v, e = .returned v ∧ Rows.memCountsSpec.post enc Try.prog Try.f5 false true false false W args v W' := by
  have hval : ∀ (j : Nat) t v, Try.f5.params[j]? = some t → args[j]? = some v → Value.okWide Try.prog W .any base t v := hval0
  have hW' := hW
  obtain ⟨p, q, hA0, hV, rfl, hfz, hnd⟩ := hW
  have hA : DataW.TrodAll enc Try.prog W 0 (fun _ => true) true Try.f5.params.toList args.toList ds p := hA0
  rw [Try.params5] at hA hval
  obtain ⟨v0, vs0, d0, ds0, p0, q0, hargs, rfl, rfl, h0, r0⟩ := trodAll_cons hA
  obtain ⟨v1, vs1, d1, ds1, p1, q1, rfl, rfl, rfl, h1, r1⟩ := trodAll_cons r0
  obtain ⟨rfl, rfl, rfl⟩ := trodAll_nil r1
  obtain rfl : args = #[v0, v1] := by cases args; simp_all
  obtain ⟨rfl, rfl⟩ := trodVars_none hV
  have k0 := h0
  have lt0 : ∀ x ∈ p0, x.block < W.heap.size := by obtain ⟨m, hm⟩ := k0; exact DataW.trod_lt m _ _ _ hm
  have k1 := h1
  have lt1 : ∀ x ∈ p1, x.block < W.heap.size := by obtain ⟨m, hm⟩ := k1; exact DataW.trod_lt m _ _ _ hm
  obtain ⟨a0, len0, cap0, rfl, w0⟩ := open_deeds (hval 0 22 v0 rfl rfl) h0
  obtain ⟨kind, da, old, x, rfl⟩ := open_deed (hval 1 25 v1 rfl rfl) h1
  clear hA0 hval0 hval
  refine (walk a0 len0 cap0 kind da old x W w0).mono fun e W' ⟨he, bel⟩ => ?_
  subst he
  exact ⟨_, rfl, _, _, _, [], _, [], hW', trodAll_mk1 (shut_bool Try.underlying4 _), (trodAll_cons_mk (Below.trod laid_prog (by kernel_rfl) (of_decide_eq_true (by kernel_rfl)) k0 bel lt0) (trodAll_cons_mk (Below.trod laid_prog (by kernel_rfl) (of_decide_eq_true (by kernel_rfl)) k1 bel lt1) trodAll_mk0)), rfl, bel.frame _, fun h => by cases h⟩

set_option maxRecDepth 100000 in
theorem lifted (os : Os) (started : os.Started) (H : Type) (enc : TypeId × Value → H) :
    ReturnsInHanded {} Try.checked os 5 .any (Rows.memCountsSpec.pre6 enc Try.prog Try.f5 Rows.memCountsRow.domain false) (Rows.memCountsSpec.post enc Try.prog Try.f5 false true false false) := by
  refine returnsInHanded_of_change (C := Try.checked) own_prog started (by kernel_rfl) Try.func5
    (ChangeSpec.witness6 (enc := enc) (C := Try.checked) false ⟨#[], #[.slice none 0 0, .agg #[.int .i64 0, .int .i64 0, .int .u64 0, .int .u64 0]], []⟩ 8 (by kernel_rfl) (by kernel_rfl) (by kernel_rfl) (by kernel_rfl)) ?_
  intro W base args ds gs before hval hW _ _
  exact contract H enc W base args ds gs before hval hW

theorem proved : Rows.MemCountsSaid :=
  OpenClaim.holds_of_wide 5 Try.f5 rfl rfl rfl rfl rfl rfl rfl ⟨rfl, rfl, rfl, rfl, rfl⟩ rfl rfl rfl rfl rfl (by kernel_rfl) Try.func5 (by kernel_rfl)
    (of_decide_eq_true (by kernel_rfl)) (by unfold Func.isWrapper; first | (rw [if_pos (by decide +kernel)]; kernel_rfl) | (rw [if_neg (by decide +kernel)]; exact ⟨rfl, rfl⟩))
    (fun os started H enc _ => lifted os started H enc)

end Go.Proofs.Ytpnoibgcnjbokaa.lawMemCounts
