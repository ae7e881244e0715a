/- PACKAGE order: places, begin, whole, and what they ask of slices: contracts -/
import Derived.Test.YtbbhekmhffhpfaaOrCan
namespace Go.Proofs.Ytbbhekmhffhpfaa
open Go.RowKit
set_option linter.unusedVariables false
set_option linter.unusedSimpArgs false

set_option maxHeartbeats 1000000 in
theorem sl_index (sv : Value) (s : List ByteArray) (k : ByteArray) (w : World) (hs : SsIn w sv s) : Calls Try.prog 31 #[sv, .string k] w fun e w' => ∃ r, e = .returned (.int .i64 r) ∧ decide (0 ≤ r) = inS s k ∧ w' = w := by
  obtain ⟨s1, c1, rfl, la, ma⟩ := hs.form
  unfold maxLen at ma
  have HS := Lib.hid hs
  clear hs
  go_enter Try.func31, Try.ntmps31
  go_wp2_with fail
  go_loopw [8] (fun i wr => ∃ (j : Nat), i = .int .i64 j ∧ j ≤ s.length ∧ inS (s.drop j) k = inS s k ∧ wr = w) (fun i _ => s.length - (intOf i).toNat)
  case atStart => exact ⟨0, rfl, Nat.zero_le _, rfl, rfl⟩
  case round =>
    obtain ⟨j, rfl, hj, hi, rfl⟩ := hrel
    have HI := Lib.hid hi
    clear hi
    by_cases h : j < s.length
    · obtain ⟨x, hx⟩ : ∃ x, s[j]? = some x := ⟨_, List.getElem?_eq_getElem h⟩
      obtain ⟨g, off, d1, e1, _, l1, k1⟩ := SsIn.here HS.out (by omega)
      simp only [Value.slice.injEq] at e1
      obtain ⟨rfl, _, rfl⟩ := e1
      have p0 := k1 j x hx
      have t1 : decide (j < s.length) = true := by simpa using h
      have HX := Lib.hid hx
      clear hx k1
      by_cases hk : x = k
      · have t2 : (k.toList == x.toList) = true := by rw [bs_beq]; simpa using hk.symm
        have HK := Lib.hid hk
        clear hk
        go_wp2_with fail
        go_ret
        refine ⟨(j : Int), rfl, ?_, rfl⟩
        rw [inS_at (HK.out ▸ HX.out)]; simp
      · have t2 : (k.toList == x.toList) = false := by rw [bs_beq]; simpa using fun e => hk e.symm
        have HK := Lib.hid hk
        clear hk
        go_wp2_with fail
        go_roundw
        case rel => exact ⟨j + 1, by go_num, by omega, by rw [inS_step HX.out HK.out]; exact HI.out, trivial⟩
        case measure => simp [intOf]; omega
    · have t1 : decide (j < s.length) = false := by simpa using h
      go_wp2_with fail
      go_ret
      exact ⟨-1, rfl, by rw [← HI.out, List.drop_of_length_le (by omega)]; rfl, rfl⟩
set_option maxHeartbeats 1000000 in
theorem sl_contains (sv : Value) (s : List ByteArray) (k : ByteArray) (w : World) (hs : SsIn w sv s) : Calls Try.prog 30 #[sv, .string k] w fun e w' => e = .returned (.bool (inS s k)) ∧ w' = w := by
  have H := Lib.hid (sl_index sv s k w hs)
  obtain ⟨s1, c1, rfl, la, ma⟩ := hs.form
  obtain ⟨B, hB⟩ : ∃ B, B = inS s k := ⟨_, rfl⟩
  rw [← hB] at H ⊢
  clear hs hB
  go_enter Try.func30, Try.ntmps30
  go_wp2_with (go_at_call 31; refine H.out.mono ?_; rintro e w1 ⟨r, rfl, hr, rfl⟩; have HR := Lib.hid hr; clear hr)
  go_ret
  exact ⟨congrArg (fun b => Ending.returned (.bool b)) HR.out, rfl⟩
/-- a call that may not be -/
def badTo (l : List Ca) : Bool := l.any (fun c => ahead c c)
theorem badTo_at {l : List Ca} {j : Nat} {c : Ca} (h : l[j]? = some c) (ha : ahead c c = true) : badTo l = true := by
  unfold badTo
  rw [List.any_eq_true]
  exact ⟨c, List.mem_of_getElem? h, ha⟩
theorem badTo_step {l : List Ca} {j : Nat} {c : Ca} (h : l[j]? = some c) (ha : ahead c c = false) : badTo (l.drop (j + 1)) = badTo (l.drop j) := by
  obtain ⟨h1, rfl⟩ := List.getElem?_eq_some_iff.1 h
  conv => rhs; rw [List.drop_eq_getElem_cons h1]
  simp only [badTo, List.any_cons, ha, Bool.false_or]
set_option maxHeartbeats 2000000 in
theorem sl_indexMay (lv : Value) (l : List Ca) (w : World) (hl : CaIn w lv l) : Calls Try.prog 28 #[lv, .func (.func 18) #[] #[]] w fun e w' => ∃ r, e = .returned (.int .i64 r) ∧ decide (0 ≤ r) = badTo l ∧ Fr [] w w' := by
  obtain ⟨s1, c1, rfl, la, ma⟩ := hl.form
  unfold maxLen at ma
  have HL := Lib.hid hl
  clear hl
  go_enter Try.func28, Try.ntmps28
  go_wp2_with fail
  go_loopw [8] (fun i wr => ∃ (j : Nat), i = .int .i64 j ∧ j ≤ l.length ∧ badTo (l.drop j) = badTo l ∧ Fr [] w wr) (fun i _ => l.length - (intOf i).toNat)
  case atStart => exact ⟨0, rfl, Nat.zero_le _, rfl, Fr.refl _ _⟩
  case round =>
    obtain ⟨j, rfl, hj, hi, hf⟩ := hrel
    have HI := Lib.hid hi
    have HF := Lib.hid hf
    clear hi hf
    by_cases h : j < l.length
    · obtain ⟨x, hx⟩ : ∃ x, l[j]? = some x := ⟨_, List.getElem?_eq_getElem h⟩
      obtain ⟨g, off, d1, e1, _, l1, k1⟩ := CaIn.here (LIn.keep0 HL.out HF.out) (by omega)
      simp only [Value.slice.injEq] at e1
      obtain ⟨rfl, _, rfl⟩ := e1
      obtain ⟨y0, y1, y2, y3, y4⟩ := k1 j x hx
      have t1 : decide (j < l.length) = true := by simpa using h
      have HX := Lib.hid hx
      clear hx k1
      obtain ⟨B, hB⟩ : ∃ B, B = ahead x x := ⟨_, rfl⟩
      have HCA : Hid (∀ W, Calls Try.prog 18 #[x.agg] W fun e w' => e = .returned (.bool B) ∧ Fr [] W w') := Lib.hid fun W => by rw [hB]; exact or_mayNot x W
      have HB := Lib.hid hB
      clear hB
      go_wp2_with (go_at_call 18; refine (HCA.out _).mono ?_; rintro e w2 ⟨rfl, hf⟩; refine go_stop ?_)
      unfold Stop
      have HF2 := Lib.hid (HF.out.trans hf (by simp))
      clear hf y0 y1 y2 y3 y4
      cases B
      · go_wp2_with fail
        go_roundw
        case rel => exact ⟨j + 1, by go_num, by omega, by rw [badTo_step HX.out HB.out.symm]; exact HI.out, HF2.out⟩
        case measure => simp [intOf]; omega
      · go_wp2_with fail
        go_ret
        refine ⟨(j : Int), rfl, ?_, HF2.out⟩
        rw [badTo_at HX.out HB.out.symm]; simp
    · have t1 : decide (j < l.length) = false := by simpa using h
      go_wp2_with fail
      go_ret
      exact ⟨-1, rfl, by rw [← HI.out, List.drop_of_length_le (by omega)]; rfl, HF.out⟩
set_option maxHeartbeats 1000000 in
theorem sl_containsMay (lv : Value) (l : List Ca) (w : World) (hl : CaIn w lv l) : Calls Try.prog 17 #[lv, .func (.func 18) #[] #[]] w fun e w' => e = .returned (.bool (badTo l)) ∧ Fr [] w w' := by
  have H := Lib.hid (sl_indexMay lv l w hl)
  obtain ⟨s1, c1, rfl, la, ma⟩ := hl.form
  obtain ⟨B, hB⟩ : ∃ B, B = badTo l := ⟨_, rfl⟩
  rw [← hB] at H ⊢
  clear hl hB
  go_enter Try.func17, Try.ntmps17
  go_wp2_with (go_at_call 28; refine H.out.mono ?_; rintro e w1 ⟨r, rfl, hr, hf⟩; have HR := Lib.hid hr; have HF := Lib.hid hf; clear hr hf)
  go_ret
  exact ⟨congrArg (fun b => Ending.returned (.bool b)) HR.out, HF.out⟩
end Go.Proofs.Ytbbhekmhffhpfaa
