/- impostref14: Fits: contract -/
import Derived.Test.YtbbhekmhffhpfaaOrCan
namespace Go.Proofs.Ytbbhekmhffhpfaa
open Go.RowKit
set_option linter.unusedVariables false
set_option linter.unusedSimpArgs false

theorem no_step {l : List Ca} {j : Nat} {c : Ca} (h : ∀ (i : Nat) (c : Ca), i < j → l[i]? = some c → ahead c c = false) (hc : l[j]? = some c) (ha : ahead c c = false) : ∀ (i : Nat) (c : Ca), i < j + 1 → l[i]? = some c → ahead c c = false := by
  intro i d hi hd
  by_cases e : i = j
  · subst e
    rw [hc] at hd
    cases hd
    exact ha
  · exact h i d (by omega) hd
set_option maxRecDepth 100000 in
set_option maxHeartbeats 4000000 in
theorem rr_fits (sv lv : Value) (s : List ByteArray) (l : List Ca) (w : World) (hs : SsIn w sv s) (hl : CaIn w lv l) (hb : s.length ≤ 100) :
    Calls Try.prog 14 #[sv, lv] w fun e w' => e = .returned (.bool (fitsB s l)) ∧ Fr [] w w' := by
  obtain ⟨ss, sc, rfl, sa, sb⟩ := LIn.form hs
  obtain ⟨ls, lc, rfl, la, lb⟩ := LIn.form hl
  unfold maxLen at sb lb
  have HS := Lib.hid hs
  have HL := Lib.hid hl
  clear hs hl
  by_cases h12 : l.length ≤ 12
  · have t0 : decide ((12 : Int) < (l.length : Int)) = false := by simp; omega
    go_enter Try.func14, Try.ntmps14
    go_wp2_with fail
    go_loopw [5] (fun i wr => ∃ (j : Nat), i = .int .i64 j ∧ j ≤ l.length ∧ (∀ (i : Nat) (c : Ca), i < j → l[i]? = some c → ahead c c = false) ∧ Fr [] w wr) (fun i _ => l.length - (intOf i).toNat)
    case atStart => exact ⟨0, rfl, Nat.zero_le _, fun i c h => absurd h (by omega), Fr.refl _ _⟩
    case round =>
      obtain ⟨j, rfl, hj, hno, hf⟩ := hrel
      have HNO := Lib.hid hno
      have HF := Lib.hid hf
      clear hno hf
      by_cases h : j < l.length
      · obtain ⟨c, hc⟩ : ∃ c, l[j]? = some c := ⟨_, List.getElem?_eq_getElem h⟩
        obtain ⟨gl, ol, l1, e2, _, l2, k2⟩ := CaIn.here (LIn.keep0 HL.out HF.out) (by omega)
        simp only [Value.slice.injEq] at e2
        obtain ⟨rfl, _, rfl⟩ := e2
        obtain ⟨y0, y1, y2, y3, y4⟩ := k2 j c hc
        have t1 : decide (j < l.length) = true := by simpa using h
        have HC := Lib.hid hc
        clear hc k2
        have hah : ahead c c = (decide (0 ≤ c.ret) && decide (c.ret < c.inv)) := rfl
        by_cases hr : 0 ≤ c.ret
        · have t2 : decide (0 ≤ c.ret) = true := decide_eq_true hr
          rw [t2] at hah
          by_cases hi : c.ret < c.inv
          · have t3 : decide (c.ret < c.inv) = true := decide_eq_true hi
            rw [t3] at hah
            have HAH := Lib.hid hah
            clear hah hr hi
            go_wp2_with fail
            go_quiet (fail)
            go_wp2_with fail
            go_ret
            exact ⟨by rw [fitsB_false.2 (fun h => by have := h.2.1 c (List.mem_of_getElem? HC.out); rw [HAH.out] at this; cases this)]; rfl, HF.out.drewN nq⟩
          · have t3 : decide (c.ret < c.inv) = false := decide_eq_false hi
            rw [t3] at hah
            have HAH := Lib.hid hah
            clear hah hr hi
            go_wp2_with fail
            go_quiet (fail)
            go_wp2_with fail
            go_roundw
            case rel => exact ⟨j + 1, by go_num, by omega, no_step HNO.out HC.out HAH.out, HF.out.drewN nq⟩
            case measure => simp [intOf]; omega
        · have t2 : decide (0 ≤ c.ret) = false := decide_eq_false hr
          rw [t2] at hah
          have HAH := Lib.hid hah
          clear hah hr
          go_wp2_with fail
          go_quiet (fail)
          go_wp2_with fail
          go_roundw
          case rel => exact ⟨j + 1, by go_num, by omega, no_step HNO.out HC.out HAH.out, HF.out.drewN nq⟩
          case measure => simp [intOf]; omega
      · have t1 : decide (j < l.length) = false := by simpa using h
        have hcan := Lib.hid fun (dv : Value) (W : World) (hW : Fr [] w W) (hd : BoIn W dv (dones l (fun _ => false))) => rr_can l h12 13 (fun _ => false) s _ _ dv W (by have := left_le (l := l) (fun _ => false); omega) (by omega) (LIn.keep0 HS.out hW) (LIn.keep0 HL.out hW) hd
        go_wp2_with (at_make; refine wpList_make_any rfl (.tmp 37) (.tmp 37) 58 4 (.bool false) 1 1 rfl bo_slice bo_info rfl (by decide) l.length rfl rfl (by omega) (by unfold maxLen; omega) ?mk)
        case mk =>
        intro w' h1 h2
        have HB := Lib.hid (none_done h1)
        have HF2 := Lib.hid (HF.out.trans h2 (by simp))
        have HC := Lib.hid (hcan.out _ _ HF2.out HB.out)
        clear h1 h2
        have HEQ : Hid (fitB l (fun _ => false) (inS s) = fitsB s l) := Lib.hid (by
          have hmay : ∀ c ∈ l, ahead c c = false := fun c hc => by
            obtain ⟨i, hi⟩ := List.mem_iff_getElem?.1 hc
            exact HNO.out i c (by have := (List.getElem?_eq_some_iff.1 hi).1; omega) hi
          by_cases hfit : FitI l (fun _ => false) (inS s)
          · rw [fitB_true.2 hfit, fitsB_true.2 ⟨h12, hmay, fit_all.1 hfit⟩]
          · rw [fitB_false.2 hfit, fitsB_false.2 (fun h => hfit (fit_all.2 h.2.2))])
        rw [HEQ.out] at HC
        go_wp2_with (go_at_call 26; refine HC.out.mono ?_; rintro e w4 ⟨rfl, hf⟩; have HF4 := Lib.hid (HF2.out.trans hf (by simp)); clear hf)
        go_ret
        exact ⟨rfl, HF4.out⟩
  · have t0 : decide ((12 : Int) < (l.length : Int)) = true := by simp; omega
    go_enter Try.func14, Try.ntmps14
    go_wp2_with fail
    go_ret
    exact ⟨by rw [fitsB_false.2 (fun h => h12 h.1)]; rfl, Fr.refl _ _⟩
end Go.Proofs.Ytbbhekmhffhpfaa
