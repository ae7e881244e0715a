/- WHAT LAYER 13's LAWS ALL CALL: few, told, plans, awake; heads, opened -/
import Derived.Test.YtmipllkgioakoaaGreatFr
import Derived.Test.YtmipllkgioakoaaGreatEvCmp
import Derived.Test.YtmipllkgioakoaaGreatLaw
namespace Go.Proofs.YtmipllkgioakoaaGreat
open Go.ChangeShapes Go.WideShapes Go.ChangeAt Go.RowKit Go.Deep
set_option linter.unusedVariables false
set_option linter.unusedSimpArgs false

theorem ffew_any (q : Rq) (cv tv ev : Value) (w : World) (h : RqIn w q cv tv ev) : Calls Tryz.prog 7 #[.agg #[.int .i64 q.kind, .string q.f, .string q.t, .int .i64 q.rev, cv, tv, ev]] w fun e w' => e = .returned (.bool (decide (q.cmps.length ≤ 20) && decide (q.thn.length ≤ 20) && decide (q.els.length ≤ 20))) ∧ Fr [] w w' := by
  obtain ⟨s1, c1, rfl, l1, m1⟩ := LIn.form h.c
  obtain ⟨s2, c2, rfl, l2, m2⟩ := LIn.form h.t
  obtain ⟨s3, c3, rfl, l3, m3⟩ := LIn.form h.e
  unfold maxLen at m1 m2 m3
  clear h
  have key : ∀ n : Nat, (decide ((n : Int) ≤ 20) = true ∧ n ≤ 20) ∨ (decide ((n : Int) ≤ 20) = false ∧ ¬ n ≤ 20) := fun n => by
    by_cases h : n ≤ 20
    · exact Or.inl ⟨by simp; omega, h⟩
    · exact Or.inr ⟨by simp; omega, h⟩
  rcases key q.cmps.length with ⟨t1, h1⟩ | ⟨t1, h1⟩
  all_goals rcases key q.thn.length with ⟨t2, h2⟩ | ⟨t2, h2⟩
  all_goals rcases key q.els.length with ⟨t3, h3⟩ | ⟨t3, h3⟩
  all_goals
    have HR : Hid ((decide (q.cmps.length ≤ 20) && decide (q.thn.length ≤ 20) && decide (q.els.length ≤ 20)) = _) := Lib.hid (by simp only [h1, h2, h3]; rfl)
    clear h1 h2 h3
    go_enter Tryz.func7, Tryz.ntmps7
    go_wp2
    go_ret
    refine ⟨?_, (Fr.refl _ _).alloc _⟩
    rw [HR.out]; rfl
def fka : ByteArray := ⟨#[97]⟩
def fkx : ByteArray := ⟨#[120]⟩
theorem fwax : fka.size ≤ maxLen ∧ fkx.size ≤ maxLen := by decide
def fq : Rq := putQ fka fkx fwax
def foa : Od := ⟨fka, fkx, false, fwax⟩
theorem fq_plan : planL [] fq = [foa] := by
  unfold planL fq putQ
  simp [holdsC, keepO, foa]
theorem fq_holds : holdsC [] fq.cmps = true := rfl
theorem fq_dec0 : decP fq [] 16 0 = ⟨false, [], 3, 0⟩ := by
  unfold decP chP
  rw [if_pos (by rfl), fq_plan]
  have : roomE 16 0 = 3 := by unfold roomE; rw [fw64 (n := 16 + 1) (by decide) (by decide), fw64 (by decide) (by decide)]; rfl
  rw [if_neg (by simp), this]; rfl
theorem fq_dec1 : decP fq [] 16 1 = ⟨true, [foa.ev 17], 0, 0⟩ := by
  unfold decP chP
  rw [if_pos (by rfl), fq_plan]
  have h1 : roomE 16 1 = 0 := by unfold roomE; rw [fw64 (n := 16 + 1) (by decide) (by decide), fw64 (by decide) (by decide)]; rfl
  have h2 : wrap64 (16 + 1) = 17 := fw64 (by decide) (by decide)
  rw [if_neg (by simp), if_pos h1, fq_holds, h2]; rfl
set_option maxHeartbeats 2000000 in
set_option maxRecDepth 100000 in
theorem fr_awake (w : World) : Calls Tryz.prog 4 #[] w fun e w' => e = .returned (.bool true) ∧ Fr [] w w' := by
  have HPUT : Hid (∀ X, Calls Tryz.prog 22 #[.string ⟨#[97]⟩, .string ⟨#[120]⟩] X fun e w' => ∃ s1 c1 s2 c2 s3 c3, e = .returned (.agg #[.int .i64 1, .string ⟨#[]⟩, .string ⟨#[]⟩, .int .i64 0, .slice s1 0 c1, .slice s2 1 c2, .slice s3 0 c3]) ∧ RqIn w' fq (.slice s1 0 c1) (.slice s2 1 c2) (.slice s3 0 c3) ∧ Fr [] X w') := Lib.hid fun X => by
    refine (txn_put fka fkx fwax X).mono ?_
    rintro e w' ⟨cv, tv, ev, rfl, h1, h2⟩
    obtain ⟨s1, c1, rfl, _, _⟩ := LIn.form h1.c
    obtain ⟨s2, c2, rfl, _, _⟩ := LIn.form h1.t
    obtain ⟨s3, c3, rfl, _, _⟩ := LIn.form h1.e
    exact ⟨s1, c1, s2, c2, s3, c3, rfl, h1, h2⟩
  have HD0 : Hid (∀ X s1 c1 s2 c2 s3 c3, RqIn X fq (.slice s1 0 c1) (.slice s2 1 c2) (.slice s3 0 c3) → Calls Tryz.prog 15 #[.agg #[.int .i64 1, .string ⟨#[]⟩, .string ⟨#[]⟩, .int .i64 0, .slice s1 0 c1, .slice s2 1 c2, .slice s3 0 c3], .slice none 0 0, .agg #[.int .i64 0, .int .i64 16, .int .i64 0]] X fun e w' => ∃ s4 c4, e = .returned (.agg #[.bool false, .slice s4 0 c4, .int .i64 3, .int .i64 0]) ∧ Fr [] X w') := Lib.hid fun X s1 c1 s2 c2 s3 c3 hX => by
    refine (fr_decide fq _ _ _ _ [] 0 16 0 X (LIn.nil _) Srt.nil hX (by unfold many; decide) (by unfold many; decide) (by decide) (by decide)).mono ?_
    rw [fq_dec0]
    rintro e w' ⟨v, rfl, h1, h2, h3⟩
    obtain ⟨s4, c4, rfl, _, _⟩ := LIn.form h1
    exact ⟨s4, c4, rfl, h3⟩
  have HD1 : Hid (∀ X s1 c1 s2 c2 s3 c3, RqIn X fq (.slice s1 0 c1) (.slice s2 1 c2) (.slice s3 0 c3) → Calls Tryz.prog 15 #[.agg #[.int .i64 1, .string ⟨#[]⟩, .string ⟨#[]⟩, .int .i64 0, .slice s1 0 c1, .slice s2 1 c2, .slice s3 0 c3], .slice none 0 0, .agg #[.int .i64 4, .int .i64 16, .int .i64 1]] X fun e w' => ∃ s4 c4, e = .returned (.agg #[.bool true, .slice s4 1 c4, .int .i64 0, .int .i64 0]) ∧ EvIn w' (.slice s4 1 c4) [foa.ev 17] ∧ Fr [] X w') := Lib.hid fun X s1 c1 s2 c2 s3 c3 hX => by
    refine (fr_decide fq _ _ _ _ [] 4 16 1 X (LIn.nil _) Srt.nil hX (by unfold many; decide) (by unfold many; decide) (by decide) (by decide)).mono ?_
    rw [fq_dec1]
    rintro e w' ⟨v, rfl, h1, h2, h3⟩
    obtain ⟨s4, c4, rfl, _, _⟩ := LIn.form h1
    exact ⟨s4, c4, rfl, h1, h3⟩
  have HST : Hid (∀ X s4 c4, Calls Tryz.prog 16 #[.agg #[.int .i64 4, .int .i64 16, .int .i64 1], .agg #[.bool true, .slice s4 1 c4, .int .i64 0, .int .i64 0]] X fun e w' => e = .returned (.agg #[.int .i64 5, .int .i64 17, .int .i64 1]) ∧ Fr [] X w') := Lib.hid fun X s4 c4 => by
    refine (fr_step 4 16 1 true s4 1 c4 0 0 (by decide) X).mono ?_
    rintro e w' ⟨rfl, h⟩
    exact ⟨by rw [show wrap64 (4 + 1) = 5 from fw64 (by decide) (by decide), show stR 16 1 = 17 from fw64 (n := 16 + 1) (by decide) (by decide), show max (1 : Int) 0 = 1 by decide], h⟩
  have HAN : Hid (∀ X s4 c4, Calls Tryz.prog 20 #[.agg #[.int .i64 5, .int .i64 17, .int .i64 1], .agg #[.bool true, .slice s4 1 c4, .int .i64 0, .int .i64 0]] X fun e w' => e = .returned (.agg #[.int .i64 5, .int .i64 17, .int .i64 1, .int .i64 0, .bool true, .slice none 0 0]) ∧ Fr [] X w') := Lib.hid fun X s4 c4 => fr_answer 5 17 1 true s4 1 c4 0 0 X
  go_enter Tryz.func4, Tryz.ntmps4
  go_wp2_with (go_at_call 22; refine (HPUT.out _).mono ?_; rintro e w1 ⟨s1, c1, s2, c2, s3, c3, rfl, hq, hf⟩; refine go_stop ?_)
  unfold Stop
  have HQ := Lib.hid hq
  have HF := Lib.hid hf
  clear hq hf
  go_wp2_with (go_at_call 15; refine (HD0.out _ _ _ _ _ _ _ HQ.out).mono ?_; rintro e w2 ⟨s4, c4, rfl, hf⟩; refine go_stop ?_)
  unfold Stop
  have HF2 := Lib.hid (HF.out.trans hf (by simp))
  clear hf HQ
  go_wp2_with (go_at_call 22; refine (HPUT.out _).mono ?_; rintro e w3 ⟨r1, d1, r2, d2, r3, d3, rfl, hq, hf⟩; refine go_stop ?_)
  unfold Stop
  have HQ := Lib.hid hq
  have HX := Lib.hid (hf.keep (new_block w2 _) (by simp))
  have HF3 := Lib.hid ((HF2.out.alloc _).trans hf (by simp))
  clear hf hq
  go_wp2_with (go_at_call 15; refine (HD1.out _ _ _ _ _ _ _ HQ.out).mono ?_; rintro e w4 ⟨s5, c5, rfl, he, hf⟩; refine go_stop ?_)
  unfold Stop
  obtain ⟨g5, off5, c5', hv5, hg5, _, k5⟩ := EvIn.here he (by decide)
  cases hv5
  have HE := Lib.hid he
  have HX4 := Lib.hid (hf.keep HX.out (by simp))
  have HF4 := Lib.hid (HF3.out.trans hf (by simp))
  have HN1 : Hid (w2.heap.size < w4.heap.size) := Lib.hid (lt_of_block (hf.keep HX.out (by simp)))
  clear hf he HX HQ k5
  generalize w2.heap.size = b1 at *
  go_wp2_with (go_at_call 16; refine (HST.out _ _ _).mono ?_; rintro e w5 ⟨rfl, hf⟩; refine go_stop ?_)
  unfold Stop
  have hal := (Fr.refl [] w4).alloc (.cells #[.bool true, .slice (some ⟨g5, off5, none⟩) 1 c5, .int .i64 0, .int .i64 0] 52)
  have hx5 := new_block w4 (.cells #[.bool true, .slice (some ⟨g5, off5, none⟩) 1 c5, .int .i64 0, .int .i64 0] 52)
  have HP5 := Lib.hid (hf.keep hx5 (by simp))
  have HX5 := Lib.hid ((hal.trans hf (by simp)).keep HX4.out (by simp))
  have HE5 := Lib.hid (LIn.keep0 HE.out (hal.trans hf (by simp)))
  have HF5 := Lib.hid (HF4.out.trans (hal.trans hf (by simp)) (by simp))
  have HN2 : Hid (w4.heap.size < w5.heap.size) := Lib.hid (lt_of_block (hf.keep hx5 (by simp)))
  clear hf hal hx5 HX4 HE HF4
  generalize w4.heap.size = b2 at *
  obtain ⟨p0, p1, p2, p3, _⟩ := cells4 HP5.out
  have n1 : ¬ b2 = w5.heap.size := by have := HN2.out; omega
  have n2 : ¬ w5.heap.size = b2 := by have := HN2.out; omega
  have n3 : b2 < w5.heap.size := HN2.out
  go_wp2_with (go_at_call 20; refine (HAN.out _ _ _).mono ?_; rintro e w6 ⟨rfl, hf⟩; refine go_stop ?_)
  unfold Stop
  have hal := (Fr.refl [] w5).alloc (.cells #[.int .i64 5, .int .i64 17, .int .i64 1] 29)
  have hx5 := new_block w5 (.cells #[.int .i64 5, .int .i64 17, .int .i64 1] 29)
  have hal6 := (Fr.refl [] w6).alloc (.cells #[.int .i64 5, .int .i64 17, .int .i64 1, .int .i64 0, .bool true, .slice none 0 0] 41)
  have hx6 := new_block w6 (.cells #[.int .i64 5, .int .i64 17, .int .i64 1, .int .i64 0, .bool true, .slice none 0 0] 41)
  have hz := (hal.trans hf (by simp)).trans hal6 (by simp)
  have HHX := Lib.hid ((hf.trans hal6 (by simp)).keep hx5 (by simp))
  have HP6 := Lib.hid (hz.keep HP5.out (by simp))
  have HX6 := Lib.hid (hz.keep HX5.out (by simp))
  have HE6 := Lib.hid (LIn.keep0 HE5.out hz)
  have HF6 := Lib.hid (HF5.out.trans hz (by simp))
  have HR6 := Lib.hid hx6
  clear hf hal hx5 hal6 hx6 hz HX5 HE5 HF5 HP5 p0 p1 p2 p3 n1 n2 n3
  go_upto_region 5 with fail
  generalize w6.alloc (.cells #[.int .i64 5, .int .i64 17, .int .i64 1, .int .i64 0, .bool true, .slice none 0 0] 41) = wz at *
  obtain ⟨p0, p1, p2, p3, _⟩ := cells4 HP6.out
  obtain ⟨x0, x1, x2, x3, _⟩ := cells4 HX6.out
  obtain ⟨y0, y1, y2, _⟩ := cells3 HHX.out
  obtain ⟨z0, z1, z2, z3, z4, z5, _⟩ := cells6 HR6.out
  obtain ⟨g6, off6, c6', hv6, hg6, _, k6⟩ := EvIn.here HE6.out (by decide)
  cases hv6
  obtain ⟨e0, e1, e2, e3⟩ := k6 0 (foa.ev 17) rfl
  dsimp only [foa, Od.ev, fka, fkx] at e0 e1 e2 e3
  simp only [Nat.zero_mul, Nat.add_zero] at e0 e1 e2 e3
  clear k6
  go_wp2_with fail
  go_ret
  exact ⟨rfl, HF6.out⟩
end Go.Proofs.YtmipllkgioakoaaGreat
