/- THE DOCUMENT's hist (impostref06): Count: its contract -/
import Derived.Test.YtpahencocbahgaaHsRef
namespace Go.Proofs.Ytpahencocbahgaa
open Go.RowKit
set_option linter.unusedVariables false
set_option linter.unusedSimpArgs false

theorem countO_step {m : List Kv} {l : List Od} {j : Nat} {x : Od} (hx : l[j]? = some x) : countO m (l.drop j) = if cntB m x (l.drop (j + 1)) then x :: countO m (l.drop (j + 1)) else countO m (l.drop (j + 1)) := by
  obtain ⟨h1, rfl⟩ := List.getElem?_eq_some_iff.1 hx
  rw [List.drop_eq_getElem_cons h1]; rfl
theorem any_stepO {p : Od → Bool} {l : List Od} {k : Nat} {y : Od} (hy : l[k]? = some y) : (l.drop k).any p = (p y || (l.drop (k + 1)).any p) := by
  obtain ⟨h1, rfl⟩ := List.getElem?_eq_some_iff.1 hy
  rw [List.drop_eq_getElem_cons h1]; rfl
set_option maxHeartbeats 4000000 in
theorem rcount_any (mv lv : Value) (m : List Kv) (l : List Od) (w : World) (hm : KvIn w mv m) (hl : OdIn w lv l) (bm : m.length ≤ many + many) (bl : l.length ≤ many) : Calls Try.prog 41 #[mv, lv] w fun e w' =>
    ∃ v, e = .returned v ∧ OutAt Od.cells 45 3 w w' v (countO m l) ∧ Fr [] w w' := by
  have HBM := Lib.hid bm
  unfold many at bl
  have HM := Lib.hid hm
  have HL := Lib.hid hl
  obtain ⟨s1, c1, rfl, la, ma⟩ := hl.form
  unfold maxLen at ma
  clear hl hm bm
  go_enter Try.func41, Try.ntmps41
  go_wp2_with fail
  go_loopw [5, 6] (fun v i wr => ∃ (j : Nat) (o : List Od), i = .int .i64 j ∧ j ≤ l.length ∧ OutAt Od.cells 45 3 w wr v o ∧ o ++ countO m (l.drop j) = countO m l ∧ o.length ≤ j ∧ Fr [] w wr) (fun _ i _ => l.length - (intOf i).toNat)
  case atStart => exact ⟨0, [], rfl, Nat.zero_le _, OutAt.nil _ _, rfl, Nat.zero_le _, Fr.refl _ _⟩
  case round =>
    obtain ⟨j, o, rfl, hj, ho, hs, hol, hf⟩ := hrel
    have HO := Lib.hid ho
    have HS := Lib.hid hs
    have HF := Lib.hid hf
    clear ho hs hf
    by_cases h : j < l.length
    · obtain ⟨x, hx⟩ : ∃ x, l[j]? = some x := ⟨_, List.getElem?_eq_getElem h⟩
      have HX := Lib.hid hx
      have HSTEP := Lib.hid (countO_step (m := m) hx)
      have t1 : decide (j < l.length) = true := by simpa using h
      clear hx
      obtain ⟨w0, hw0⟩ : ∃ w0, w0 = wr := ⟨_, rfl⟩
      have HF9 : Hid (Fr [] w w0) := Lib.hid (by rw [hw0]; exact HF.out)
      have HO9 : Hid (OutAt Od.cells 45 3 w w0 u5 o) := Lib.hid (by rw [hw0]; exact HO.out)
      go_wp2_with fail
      rw [← hw0]
      clear hw0 HF HO
      go_loopw [7, 8] (fun b i wr => ∃ (k : Nat) (c : Bool), b = .bool c ∧ i = .int .i64 k ∧ j + 1 ≤ k ∧ k ≤ l.length ∧ (c && !((l.drop k).any (fun y => decide (y.key = x.key)))) = !((l.drop (j + 1)).any (fun y => decide (y.key = x.key))) ∧ Fr [] w0 wr) (fun _ i _ => l.length - (intOf i).toNat)
      case atStart => exact ⟨j + 1, true, rfl, by go_num, Nat.le_refl _, h, by simp, Fr.refl _ _⟩
      case round =>
        obtain ⟨k, c, rfl, rfl, hk1, hk2, hc, hf2⟩ := hrel
        have HC := Lib.hid hc
        have HF2 := Lib.hid (HF9.out.trans hf2 (by simp))
        have HO2 := Lib.hid (HO9.out.keep hf2)
        have HF3 := Lib.hid hf2
        clear hc hf2
        obtain ⟨g, off, d1, e1, hg, l1, k1⟩ := OdIn.here (LIn.keep0 HL.out HF2.out) (by omega)
        cases e1
        have HPX := Lib.hid (k1 j x HX.out)
        obtain ⟨p0, p1, p2⟩ := HPX.out
        by_cases hkl : k < l.length
        · obtain ⟨y, hy⟩ : ∃ y, l[k]? = some y := ⟨_, List.getElem?_eq_getElem hkl⟩
          obtain ⟨r0, r1, r2⟩ := k1 k y hy
          have HST := Lib.hid (any_stepO (p := fun y => decide (y.key = x.key)) hy)
          have t2 : decide (k < l.length) = true := by simpa using hkl
          clear hy k1
          cases c
          · go_wp2_with fail
            go_quiet (fail)
            go_wp2_with fail
            go_roundw
            case rel =>
              refine ⟨k + 1, false, rfl, by go_num, by omega, by omega, ?_, HF3.out.drewN nq⟩
              rw [← HC.out]; rfl
            case measure => simp [intOf]; omega
          · by_cases hk : y.key = x.key
            · have t3 : (y.key.toList == x.key.toList) = true := by rw [hk]; simp
              have HK := Lib.hid hk
              clear hk
              go_wp2_with fail
              go_quiet (fail)
              go_wp2_with fail
              go_roundw
              case rel =>
                refine ⟨k + 1, false, rfl, by go_num, by omega, by omega, ?_, HF3.out.drewN nq⟩
                rw [← HC.out, HST.out, HK.out]; simp
              case measure => simp [intOf]; omega
            · have t3 : (y.key.toList == x.key.toList) = false := by rw [beq_eq_false_iff_ne]; exact fun e => hk (bs_inj e)
              have HK := Lib.hid hk
              clear hk
              go_wp2_with fail
              go_quiet (fail)
              go_wp2_with fail
              go_roundw
              case rel =>
                refine ⟨k + 1, true, rfl, by go_num, by omega, by omega, ?_, HF3.out.drewN nq⟩
                rw [← HC.out, HST.out]; simp [HK.out]
              case measure => simp [intOf]; omega
        · have t2 : decide (k < l.length) = false := by simpa using hkl
          have HCC : Hid (c = !((l.drop (j + 1)).any (fun y => decide (y.key = x.key)))) := Lib.hid (by have := HC.out; rw [List.drop_of_length_le (by omega)] at this; simpa using this)
          clear k1 HC
          go_wp2_with (go_at_call 15; refine (rget_any _ m x.key _ (LIn.keep0 HM.out HF2.out) HBM.out).mono ?_; rintro e w1 ⟨rfl, h2⟩; refine go_stop ?_)
          unfold Stop
          have hb1 := HPX.out.keep h2 (by simp)
          have HO4 := Lib.hid (HO2.out.keep h2)
          have HF4 := Lib.hid (HF2.out.trans h2 (by simp))
          obtain ⟨q0, q1, q2⟩ := hb1
          have hsz := h2.size
          have n1 : ¬ g = w1.heap.size := by omega
          have n2 : ¬ w1.heap.size = g := by omega
          have n3 : g < w1.heap.size := by omega
          clear hsz
          have HCNT : Hid (cntB m x (l.drop (j + 1)) = (c && ((getK x.key m).isSome || !x.del))) := Lib.hid (by unfold cntB; rw [HCC.out])
          clear h2 p0 p1 p2 HCC
          rcases x with ⟨xk, xv, xd, xw⟩
          dsimp only at q0 q1 q2 ⊢
          have HCNT : Hid (cntB m ⟨xk, xv, xd, xw⟩ (l.drop (j + 1)) = (c && ((getK xk m).isSome || !xd))) := HCNT
          cases xd
          · cases hG : (getK xk m).isSome
            · have HG := Lib.hid hG
              clear hG
              cases c
              · have HW : Hid (cntB m ⟨xk, xv, false, xw⟩ (l.drop (j + 1)) = false) := Lib.hid (by rw [HCNT.out, HG.out]; rfl)
                go_wp2_with fail
                go_roundw
                case rel =>
                  refine ⟨j + 1, o, by go_num, by omega, HO4.out.keep ((Fr.refl [] _).alloc _), ?_, by omega, HF4.out.alloc _⟩
                  have h2 := HSTEP.out
                  rw [HW.out, if_neg (by simp)] at h2
                  rw [← HS.out, h2]
                case measure => simp [intOf]; omega
              · have HW : Hid (cntB m ⟨xk, xv, false, xw⟩ (l.drop (j + 1)) = true) := Lib.hid (by rw [HCNT.out, HG.out]; rfl)
                have HO5 := Lib.hid (HO4.out.keep ((Fr.refl [] w1).alloc (.cells #[.string (getZ xk m).key, .string (getZ xk m).val, .int .i64 (getZ xk m).rev] 47)))
                have HF5 := Lib.hid (HF4.out.alloc (.cells #[.string (getZ xk m).key, .string (getZ xk m).val, .int .i64 (getZ xk m).rev] 47))
                obtain ⟨w2, hw2⟩ : ∃ w2, w2 = w1.alloc (.cells #[.string (getZ xk m).key, .string (getZ xk m).val, .int .i64 (getZ xk m).rev] 47) := ⟨_, rfl⟩
                go_wp2_with (at_builtin; refine go_stop ?_)
                unfold Stop
                rw [← hw2] at HO5 HF5 ⊢
                have hz : w2.heap.size = w1.heap.size + 1 := by rw [hw2]; simp
                refine wpList_append_any rfl (.tmp 61) (.tmp 66) 39 45 (.agg #[.string ⟨#[]⟩, .string ⟨#[]⟩, .bool false]) 3 40 rfl od_slice od_info rfl (by decide) _ o.length (allC Od.cells o) rfl (HO5.out.lies.keep0 ((Fr.refl [] w2).alloc (.cells (Od.cells ⟨xk, xv, false, xw⟩).toArray 45))) _ 1 (Od.cells ⟨xk, xv, false, xw⟩) rfl (lies_row w2 45 (Od.cells ⟨xk, xv, false, xw⟩) rfl _ hz) (Od.cone _) (by unfold maxLen; omega) (by omega) ?_
                intro v' w' h1 h2 h3
                have ha := (HO5.out.keep ((Fr.refl [] w2).alloc (.cells (Od.cells ⟨xk, xv, false, xw⟩).toArray 45)))
                have HA := Lib.hid (OutAt.app ha (Nat.le_trans HF5.out.size ((Fr.refl [] w2).alloc _).size) (xs := [⟨xk, xv, false, xw⟩]) (by rw [allC_one]; exact h1) rfl h3)
                have HG := Lib.hid (OutAt.fr ha (HF5.out.alloc _) h2)
                clear h1 h2 h3 ha
                go_wp2_with fail
                go_roundw
                case rel =>
                  refine ⟨j + 1, o ++ [⟨xk, xv, false, xw⟩], by go_num, by omega, HA.out, ?_, by simp; omega, HG.out⟩
                  have h2 := HSTEP.out
                  rw [HW.out, if_pos rfl] at h2
                  rw [← HS.out, h2, List.append_assoc]
                  rfl
                case measure => simp [intOf]; omega
            · have HG := Lib.hid hG
              clear hG
              cases c
              · have HW : Hid (cntB m ⟨xk, xv, false, xw⟩ (l.drop (j + 1)) = false) := Lib.hid (by rw [HCNT.out, HG.out]; rfl)
                go_wp2_with fail
                go_roundw
                case rel =>
                  refine ⟨j + 1, o, by go_num, by omega, HO4.out.keep ((Fr.refl [] _).alloc _), ?_, by omega, HF4.out.alloc _⟩
                  have h2 := HSTEP.out
                  rw [HW.out, if_neg (by simp)] at h2
                  rw [← HS.out, h2]
                case measure => simp [intOf]; omega
              · have HW : Hid (cntB m ⟨xk, xv, false, xw⟩ (l.drop (j + 1)) = true) := Lib.hid (by rw [HCNT.out, HG.out]; rfl)
                have HO5 := Lib.hid (HO4.out.keep ((Fr.refl [] w1).alloc (.cells #[.string (getZ xk m).key, .string (getZ xk m).val, .int .i64 (getZ xk m).rev] 47)))
                have HF5 := Lib.hid (HF4.out.alloc (.cells #[.string (getZ xk m).key, .string (getZ xk m).val, .int .i64 (getZ xk m).rev] 47))
                obtain ⟨w2, hw2⟩ : ∃ w2, w2 = w1.alloc (.cells #[.string (getZ xk m).key, .string (getZ xk m).val, .int .i64 (getZ xk m).rev] 47) := ⟨_, rfl⟩
                go_wp2_with (at_builtin; refine go_stop ?_)
                unfold Stop
                rw [← hw2] at HO5 HF5 ⊢
                have hz : w2.heap.size = w1.heap.size + 1 := by rw [hw2]; simp
                refine wpList_append_any rfl (.tmp 61) (.tmp 66) 39 45 (.agg #[.string ⟨#[]⟩, .string ⟨#[]⟩, .bool false]) 3 40 rfl od_slice od_info rfl (by decide) _ o.length (allC Od.cells o) rfl (HO5.out.lies.keep0 ((Fr.refl [] w2).alloc (.cells (Od.cells ⟨xk, xv, false, xw⟩).toArray 45))) _ 1 (Od.cells ⟨xk, xv, false, xw⟩) rfl (lies_row w2 45 (Od.cells ⟨xk, xv, false, xw⟩) rfl _ hz) (Od.cone _) (by unfold maxLen; omega) (by omega) ?_
                intro v' w' h1 h2 h3
                have ha := (HO5.out.keep ((Fr.refl [] w2).alloc (.cells (Od.cells ⟨xk, xv, false, xw⟩).toArray 45)))
                have HA := Lib.hid (OutAt.app ha (Nat.le_trans HF5.out.size ((Fr.refl [] w2).alloc _).size) (xs := [⟨xk, xv, false, xw⟩]) (by rw [allC_one]; exact h1) rfl h3)
                have HG := Lib.hid (OutAt.fr ha (HF5.out.alloc _) h2)
                clear h1 h2 h3 ha
                go_wp2_with fail
                go_roundw
                case rel =>
                  refine ⟨j + 1, o ++ [⟨xk, xv, false, xw⟩], by go_num, by omega, HA.out, ?_, by simp; omega, HG.out⟩
                  have h2 := HSTEP.out
                  rw [HW.out, if_pos rfl] at h2
                  rw [← HS.out, h2, List.append_assoc]
                  rfl
                case measure => simp [intOf]; omega
          · cases hG : (getK xk m).isSome
            · have HG := Lib.hid hG
              clear hG
              cases c
              · have HW : Hid (cntB m ⟨xk, xv, true, xw⟩ (l.drop (j + 1)) = false) := Lib.hid (by rw [HCNT.out, HG.out]; rfl)
                go_wp2_with fail
                go_roundw
                case rel =>
                  refine ⟨j + 1, o, by go_num, by omega, HO4.out.keep ((Fr.refl [] _).alloc _), ?_, by omega, HF4.out.alloc _⟩
                  have h2 := HSTEP.out
                  rw [HW.out, if_neg (by simp)] at h2
                  rw [← HS.out, h2]
                case measure => simp [intOf]; omega
              · have HW : Hid (cntB m ⟨xk, xv, true, xw⟩ (l.drop (j + 1)) = false) := Lib.hid (by rw [HCNT.out, HG.out]; rfl)
                go_wp2_with fail
                go_roundw
                case rel =>
                  refine ⟨j + 1, o, by go_num, by omega, HO4.out.keep ((Fr.refl [] _).alloc _), ?_, by omega, HF4.out.alloc _⟩
                  have h2 := HSTEP.out
                  rw [HW.out, if_neg (by simp)] at h2
                  rw [← HS.out, h2]
                case measure => simp [intOf]; omega
            · have HG := Lib.hid hG
              clear hG
              cases c
              · have HW : Hid (cntB m ⟨xk, xv, true, xw⟩ (l.drop (j + 1)) = false) := Lib.hid (by rw [HCNT.out, HG.out]; rfl)
                go_wp2_with fail
                go_roundw
                case rel =>
                  refine ⟨j + 1, o, by go_num, by omega, HO4.out.keep ((Fr.refl [] _).alloc _), ?_, by omega, HF4.out.alloc _⟩
                  have h2 := HSTEP.out
                  rw [HW.out, if_neg (by simp)] at h2
                  rw [← HS.out, h2]
                case measure => simp [intOf]; omega
              · have HW : Hid (cntB m ⟨xk, xv, true, xw⟩ (l.drop (j + 1)) = true) := Lib.hid (by rw [HCNT.out, HG.out]; rfl)
                have HO5 := Lib.hid (HO4.out.keep ((Fr.refl [] w1).alloc (.cells #[.string (getZ xk m).key, .string (getZ xk m).val, .int .i64 (getZ xk m).rev] 47)))
                have HF5 := Lib.hid (HF4.out.alloc (.cells #[.string (getZ xk m).key, .string (getZ xk m).val, .int .i64 (getZ xk m).rev] 47))
                obtain ⟨w2, hw2⟩ : ∃ w2, w2 = w1.alloc (.cells #[.string (getZ xk m).key, .string (getZ xk m).val, .int .i64 (getZ xk m).rev] 47) := ⟨_, rfl⟩
                go_wp2_with (at_builtin; refine go_stop ?_)
                unfold Stop
                rw [← hw2] at HO5 HF5 ⊢
                have hz : w2.heap.size = w1.heap.size + 1 := by rw [hw2]; simp
                refine wpList_append_any rfl (.tmp 61) (.tmp 66) 39 45 (.agg #[.string ⟨#[]⟩, .string ⟨#[]⟩, .bool false]) 3 40 rfl od_slice od_info rfl (by decide) _ o.length (allC Od.cells o) rfl (HO5.out.lies.keep0 ((Fr.refl [] w2).alloc (.cells (Od.cells ⟨xk, xv, true, xw⟩).toArray 45))) _ 1 (Od.cells ⟨xk, xv, true, xw⟩) rfl (lies_row w2 45 (Od.cells ⟨xk, xv, true, xw⟩) rfl _ hz) (Od.cone _) (by unfold maxLen; omega) (by omega) ?_
                intro v' w' h1 h2 h3
                have ha := (HO5.out.keep ((Fr.refl [] w2).alloc (.cells (Od.cells ⟨xk, xv, true, xw⟩).toArray 45)))
                have HA := Lib.hid (OutAt.app ha (Nat.le_trans HF5.out.size ((Fr.refl [] w2).alloc _).size) (xs := [⟨xk, xv, true, xw⟩]) (by rw [allC_one]; exact h1) rfl h3)
                have HG := Lib.hid (OutAt.fr ha (HF5.out.alloc _) h2)
                clear h1 h2 h3 ha
                go_wp2_with fail
                go_roundw
                case rel =>
                  refine ⟨j + 1, o ++ [⟨xk, xv, true, xw⟩], by go_num, by omega, HA.out, ?_, by simp; omega, HG.out⟩
                  have h2 := HSTEP.out
                  rw [HW.out, if_pos rfl] at h2
                  rw [← HS.out, h2, List.append_assoc]
                  rfl
                case measure => simp [intOf]; omega
    · have t1 : decide (j < l.length) = false := by simpa using h
      go_wp2
      go_ret
      refine ⟨_, rfl, ?_, HF.out⟩
      have := HS.out
      rw [List.drop_of_length_le (by omega)] at this
      rw [← this, show o ++ countO m [] = o by simp [countO]]
      exact HO.out
end Go.Proofs.Ytpahencocbahgaa
