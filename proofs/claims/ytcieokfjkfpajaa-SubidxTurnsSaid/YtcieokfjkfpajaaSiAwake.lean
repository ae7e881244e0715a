/- THE DOCUMENT's EXAMPLE of layer 11: awake -/
import Derived.Test.YtcieokfjkfpajaaSiRan
namespace Go.Proofs.Ytcieokfjkfpajaa
open Go.RowKit
set_option linter.unusedVariables false
set_option linter.unusedSimpArgs false

theorem lit_ints (w : World) (l : List Int) (hl : l.length ≤ 1000) (B : Nat) (hB : w.heap.size = B) : InIn (w.alloc (.cells (l.map (Value.int .i64)).toArray 3)) (.slice (some ⟨B, 0, none⟩) l.length l.length) l := by
  subst hB
  refine ⟨_, l.length, rfl, Nat.le_refl _, by unfold maxLen; omega, fun _ => ⟨_, 0, rfl, by simp, fun i x hx j hj => ?_⟩⟩
  obtain rfl : j = 0 := by omega
  rw [cell_block (new_block w _)]
  have := (List.getElem?_eq_some_iff.1 hx)
  obtain ⟨hi, rfl⟩ := this
  simp [inC, hi]
def awA : Sb := ⟨5, 0, ⟨#[97]⟩, ⟨#[99]⟩⟩
def awB : Sb := ⟨2, 0, ⟨#[98]⟩, ⟨#[]⟩⟩
theorem l97 : (⟨#[97]⟩ : ByteArray).toList = [97] := by rw [ByteArray.toList_eq]
theorem l98 : (⟨#[98]⟩ : ByteArray).toList = [98] := by rw [ByteArray.toList_eq]
theorem l99 : (⟨#[99]⟩ : ByteArray).toList = [99] := by rw [ByteArray.toList_eq]
theorem aw_1 : addE [] awA = 0 ∧ addL [] awA = [awA] := by
  refine addE_ok ?_ ?_
  · unfold awA; dsimp only; rw [l97, l99]; rfl
  · rfl
theorem aw_2 : addE [awA] awB = 0 ∧ addL [awA] awB = [awA, awB] := by
  have h := addE_ok (L := [awA]) (s := awB) (by unfold awB; dsimp only; rw [l98, nil_list]; rfl) (by rfl)
  refine ⟨h.1, h.2.trans ?_⟩
  have : lsS awB awA = false := by unfold lsS awA awB; dsimp only; rw [l97, l98]; rfl
  rw [insL, if_neg (by rw [this]; simp)]; rfl
theorem aw_want (k : Bs) (rev : Int) : stabS k rev [awA, awB] = sortI ((if decide (0 < rev) && inB [97] [99] k then [5] else []) ++ (if decide (0 < rev) && inB [98] [] k then [2] else [])) := by
  unfold stabS
  have h1 : Sb.want k rev awA = (decide (0 < rev) && inB [97] [99] k) := by unfold Sb.want awA; dsimp only; rw [l97, l99]
  have h2 : Sb.want k rev awB = (decide (0 < rev) && inB [98] [] k) := by unfold Sb.want awB; dsimp only; rw [l98, nil_list]
  simp only [List.filter_cons, List.filter_nil, h1, h2]
  cases (decide (0 < rev) && inB [97] [99] k) <;> cases (decide (0 < rev) && inB [98] [] k) <;> rfl
theorem sort_52 : sortI [5, 2] = [2, 5] := strict_unique (sortI_strict (by decide)) (by decide) fun x => by
  rw [sortI_mem]; simp only [List.mem_cons, List.not_mem_nil, or_false]; exact Or.comm
theorem aw_b1 : stabS (⟨#[98]⟩ : ByteArray).toList 1 [awA, awB] = [2, 5] := by
  rw [aw_want, l98, show ((if (decide ((0 : Int) < 1) && inB [97] [99] [98]) = true then [(5 : Int)] else []) ++ (if (decide ((0 : Int) < 1) && inB [98] [] [98]) = true then [2] else [])) = [5, 2] from by decide]
  exact sort_52
theorem aw_a1 : stabS (⟨#[97]⟩ : ByteArray).toList 1 [awA, awB] = [5] := by
  rw [aw_want, l97, show ((if (decide ((0 : Int) < 1) && inB [97] [99] [97]) = true then [(5 : Int)] else []) ++ (if (decide ((0 : Int) < 1) && inB [98] [] [97]) = true then [2] else [])) = [5] from by decide]
  simp [sortI]
theorem aw_b0 : stabS (⟨#[98]⟩ : ByteArray).toList 0 [awA, awB] = [] := by
  rw [aw_want, l98, show ((if (decide ((0 : Int) < 0) && inB [97] [99] [98]) = true then [(5 : Int)] else []) ++ (if (decide ((0 : Int) < 0) && inB [98] [] [98]) = true then [2] else [])) = [] from by decide]
  simp [sortI]
set_option maxHeartbeats 2000000 in
theorem si_awake (w : World) : Calls Try.prog 9 #[] w fun e w' => e = .returned (.bool true) ∧ Fr [] w w' := by
  have HN := Lib.hid fun W => ix_new W
  have HA1 := Lib.hid fun (W : World) p S (h : Ix W p S 0 []) => ix_add h (by omega) awA (by unfold wf64; decide)
  have HA2 := Lib.hid fun (W : World) p S (h : Ix W p S 1 [awA]) => ix_add h (by omega) awB (by unfold wf64; decide)
  rw [aw_1.1, aw_1.2] at HA1
  rw [aw_2.1, aw_2.2] at HA2
  have HB1 := Lib.hid fun (W : World) p S (h : Ix W p S 2 [awA, awB]) => ix_stab h (by omega) ⟨#[98]⟩ 1
  have HB2 := Lib.hid fun (W : World) p S (h : Ix W p S 2 [awA, awB]) => ix_stab h (by omega) ⟨#[97]⟩ 1
  have HB3 := Lib.hid fun (W : World) p S (h : Ix W p S 2 [awA, awB]) => ix_stab h (by omega) ⟨#[98]⟩ 0
  rw [aw_b1] at HB1
  rw [aw_a1] at HB2
  rw [aw_b0] at HB3
  have HALL := Lib.hid fun (W : World) p S (h : Ix W p S 2 [awA, awB]) => ix_all h (by omega)
  have HI1 : Hid (∀ (W : World) (v : Value), InIn W v [2, 5] → Calls Try.prog 13 #[v, .slice (some ⟨W.heap.size, 0, none⟩) 2 2] (W.alloc (.cells #[.int .i64 2, .int .i64 5] 3)) fun e w' => e = .returned (.bool true) ∧ Fr [] (W.alloc (.cells #[.int .i64 2, .int .i64 5] 3)) w') := Lib.hid fun W v h =>
    rsi_ints v _ [2, 5] [2, 5] _ (LIn.keep0 h ((Fr.refl [] W).alloc _)) (lit_ints W [2, 5] (by simp) _ rfl) (by simp) (by simp)
  have HI2 : Hid (∀ (W : World) (v : Value), InIn W v [5] → Calls Try.prog 13 #[v, .slice (some ⟨W.heap.size, 0, none⟩) 1 1] (W.alloc (.cells #[.int .i64 5] 3)) fun e w' => e = .returned (.bool true) ∧ Fr [] (W.alloc (.cells #[.int .i64 5] 3)) w') := Lib.hid fun W v h =>
    rsi_ints v _ [5] [5] _ (LIn.keep0 h ((Fr.refl [] W).alloc _)) (lit_ints W [5] (by simp) _ rfl) (by simp) (by simp)
  go_enter Try.func9, Try.ntmps9
  go_wp2_with (go_at_call 10; refine (HN.out _).mono ?_; rintro e w1 ⟨p, S, rfl, hx, hf, hge⟩; refine go_stop ?_)
  have HX1 := Lib.hid hx
  have HF1 := Lib.hid hf
  have HG1 := Lib.hid hge
  clear hx hf hge HN
  unfold Stop
  go_wp2_with (go_at_call 19; refine (HA1.out _ _ _ HX1.out).mono ?_; rintro e w2 ⟨rfl, S2, hx2, hf2, hg2, hs2⟩; refine go_stop ?_)
  have HX2 := Lib.hid hx2
  have HF2 := Lib.hid (HF1.out.trans hf2 (fun k hk => Or.inr (HG1.out k hk)))
  have HG2 := Lib.hid (Grow.ge hg2 HF1.out.size HG1.out)
  clear hx2 hf2 hg2 hs2 HA1
  unfold Stop
  go_wp2_with (go_at_call 19; refine (HA2.out _ _ _ HX2.out).mono ?_; rintro e w3 ⟨rfl, S3, hx3, hf3, hg3, hs3⟩; refine go_stop ?_)
  have HX3 := Lib.hid hx3
  have HF3 := Lib.hid (HF2.out.trans hf3 (fun k hk => Or.inr (HG2.out k hk)))
  clear hx3 hf3 hg3 hs3 HA2
  unfold Stop
  go_wp2_with (go_at_call 14; refine (HB1.out _ _ _ HX3.out).mono ?_; rintro e w4 ⟨v4, rfl, ho4, hf4⟩; refine go_stop ?_)
  have HX4 := Lib.hid (HX3.out.keep0 hf4)
  have HF4 := Lib.hid (HF3.out.trans hf4 (by simp))
  have HI1' := Lib.hid (HI1.out _ _ (out_in ho4))
  obtain ⟨s4, c4, rfl, _⟩ := ho4.lies.form
  clear ho4 hf4 HB1 HI1
  unfold Stop
  go_wp2_with (go_at_call 13; refine HI1'.out.mono ?_; rintro e w5 ⟨rfl, hf5⟩; refine go_stop ?_)
  have HX5 := Lib.hid (HX4.out.keep0 (((Fr.refl [] w4).alloc _).trans hf5 (by simp)))
  have HF5 := Lib.hid (HF4.out.trans (((Fr.refl [] w4).alloc _).trans hf5 (by simp)) (by simp))
  clear hf5 HI1'
  unfold Stop
  go_wp2_with (go_at_call 14; refine (HB2.out _ _ _ HX5.out).mono ?_; rintro e w6 ⟨v6, rfl, ho6, hf6⟩; refine go_stop ?_)
  have HX6 := Lib.hid (HX5.out.keep0 hf6)
  have HF6 := Lib.hid (HF5.out.trans hf6 (by simp))
  have HI2' := Lib.hid (HI2.out _ _ (out_in ho6))
  obtain ⟨s6, c6, rfl, _⟩ := ho6.lies.form
  clear ho6 hf6 HB2 HI2
  unfold Stop
  go_wp2_with (go_at_call 13; refine HI2'.out.mono ?_; rintro e w7 ⟨rfl, hf7⟩; refine go_stop ?_)
  have HX7 := Lib.hid (HX6.out.keep0 (((Fr.refl [] w6).alloc _).trans hf7 (by simp)))
  have HF7 := Lib.hid (HF6.out.trans (((Fr.refl [] w6).alloc _).trans hf7 (by simp)) (by simp))
  clear hf7 HI2'
  unfold Stop
  go_wp2_with (go_at_call 12; refine (HALL.out _ _ _ HX7.out).mono ?_; rintro e w8 ⟨v8, rfl, ho8, hf8⟩; refine go_stop ?_)
  have HX8 := Lib.hid (HX7.out.keep0 hf8)
  have HF8 := Lib.hid (HF7.out.trans hf8 (by simp))
  obtain ⟨s8, c8, rfl, _⟩ := ho8.lies.form
  clear ho8 hf8 HALL
  unfold Stop
  go_wp2_with (go_at_call 14; refine (HB3.out _ _ _ HX8.out).mono ?_; rintro e w9 ⟨v9, rfl, ho9, hf9⟩; refine go_stop ?_)
  have HF9 := Lib.hid (HF8.out.trans hf9 (by simp))
  obtain ⟨s9, c9, rfl, _⟩ := ho9.lies.form
  clear ho9 hf9 HB3
  unfold Stop
  go_wp2_with fail
  go_ret
  exact ⟨rfl, HF9.out⟩
end Go.Proofs.Ytcieokfjkfpajaa
