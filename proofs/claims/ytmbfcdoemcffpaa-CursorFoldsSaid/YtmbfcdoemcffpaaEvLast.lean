/- THE DOCUMENT's Last (impostref05): its contract -/
import Derived.Test.YtmbfcdoemcffpaaEvOne
namespace Go.Proofs.Ytmbfcdoemcffpaa
open Go.RowKit
set_option linter.unusedVariables false
set_option linter.unusedSimpArgs false

theorem lastGo_step {o l : List Ev} {j : Nat} {x : Ev} (hx : l[j]? = some x) : lastGo o (l.drop j) = if (l.drop (j + 1)).any (fun y => decide (y.key = x.key)) then lastGo o (l.drop (j + 1)) else lastGo (insE x o) (l.drop (j + 1)) := by
  obtain ⟨h1, rfl⟩ := List.getElem?_eq_some_iff.1 hx
  rw [List.drop_eq_getElem_cons h1]; rfl
theorem any_step {p : Ev → Bool} {l : List Ev} {k : Nat} {y : Ev} (hy : l[k]? = some y) : (l.drop k).any p = (p y || (l.drop (k + 1)).any p) := by
  obtain ⟨h1, rfl⟩ := List.getElem?_eq_some_iff.1 hy
  rw [List.drop_eq_getElem_cons h1]; rfl
set_option maxHeartbeats 4000000 in
theorem rlast_any (lv : Value) (l : List Ev) (w : World) (hl : EvIn w lv l) (hm : l.length ≤ many) : Calls Try.prog 33 #[lv] w fun e w' => ∃ v, e = .returned v ∧ EvAt w' v (lastE l) ∧ Fr [] w w' := by
  unfold many at hm
  have q1 := @run_lss Try.prog
  have HL := Lib.hid hl
  obtain ⟨s1, c1, rfl, la, ma⟩ := hl.form
  unfold maxLen at ma
  clear hl
  go_enter Try.func33, Try.ntmps33
  go_wp2_with fail
  go_loopw [3, 4] (fun v i wr => ∃ (j : Nat) (o : List Ev), i = .int .i64 j ∧ j ≤ l.length ∧ OutAt Ev.cells 67 4 w wr v o ∧ lastGo o (l.drop j) = lastE l ∧ o.length ≤ j ∧ Fr [] w wr) (fun _ i _ => l.length - (intOf i).toNat)
  case atStart => exact ⟨0, [], rfl, Nat.zero_le _, OutAt.nil _ _, rfl, Nat.zero_le _, Fr.refl _ _⟩
  case round =>
    obtain ⟨j, o, rfl, hj, ho, hs, hol, hf⟩ := hrel
    have HO := Lib.hid ho
    have HS := Lib.hid hs
    have HF := Lib.hid hf
    clear ho hs hf
    by_cases h : j < l.length
    · obtain ⟨x, hx⟩ : ∃ x, l[j]? = some x := ⟨_, List.getElem?_eq_getElem h⟩
      have HX := Lib.hid hx
      have HSTEP := Lib.hid (lastGo_step (o := o) hx)
      have t1 : decide (j < l.length) = true := by simpa using h
      clear hx
      obtain ⟨w0, hw0⟩ : ∃ w0, w0 = wr := ⟨_, rfl⟩
      go_wp2_with fail
      rw [← hw0]
      go_loopw [5, 6] (fun b i wr => ∃ (k : Nat) (c : Bool), b = .bool c ∧ i = .int .i64 k ∧ j + 1 ≤ k ∧ k ≤ l.length ∧ (c && !((l.drop k).any (fun y => decide (y.key = x.key)))) = !((l.drop (j + 1)).any (fun y => decide (y.key = x.key))) ∧ Fr [] w0 wr) (fun _ i _ => l.length - (intOf i).toNat)
      case atStart => exact ⟨j + 1, true, rfl, by go_num, Nat.le_refl _, h, by simp, Fr.refl _ _⟩
      case round =>
        obtain ⟨k, c, rfl, rfl, hk1, hk2, hc, hf2⟩ := hrel
        have HC := Lib.hid hc
        rw [hw0] at hf2
        have HF2 := Lib.hid (HF.out.trans hf2 (by simp))
        have HO2 := Lib.hid (HO.out.keep hf2)
        have HF3 := Lib.hid hf2
        clear hc hf2
        obtain ⟨g, off, d1, e1, _, l1, k1⟩ := EvIn.here (LIn.keep0 HL.out HF2.out) (by omega)
        cases e1
        have HPX := Lib.hid (k1 j x HX.out)
        obtain ⟨p0, p1, p2, p3⟩ := HPX.out
        by_cases hkl : k < l.length
        · obtain ⟨y, hy⟩ : ∃ y, l[k]? = some y := ⟨_, List.getElem?_eq_getElem hkl⟩
          obtain ⟨r0, r1, r2, r3⟩ := k1 k y hy
          have HST := Lib.hid (any_step (p := fun y => decide (y.key = x.key)) hy)
          have t2 : decide (k < l.length) = true := by simpa using hkl
          clear hy k1
          cases c
          · go_wp2_with fail
            go_quiet (fail)
            go_wp2_with fail
            go_roundw
            case rel =>
              refine ⟨k + 1, false, rfl, by go_num, by omega, by omega, ?_, ?_⟩
              · rw [← HC.out]; rfl
              · rw [hw0]; exact HF3.out.drewN nq
            case measure => simp [intOf]; omega
          · by_cases he : y.key = x.key
            · have he2 : y.key.toList = x.key.toList := by rw [he]
              have HE := Lib.hid he
              go_wp2_with fail
              go_quiet (fail)
              go_wp2_with fail
              go_roundw
              case rel =>
                refine ⟨k + 1, false, by simp [he2], by go_num, by omega, by omega, ?_, ?_⟩
                · rw [← HC.out, HST.out, HE.out]; simp
                · rw [hw0]; exact HF3.out.drewN nq
              case measure => simp [intOf]; omega
            · have he2 : ¬ y.key.toList = x.key.toList := fun e => he (bs_inj e)
              have he3 : (y.key.toList == x.key.toList) = false := by simpa using he2
              have he4 : (y.key.toList != x.key.toList) = true := by simpa using he2
              have HE := Lib.hid he
              go_wp2_with fail
              go_quiet (fail)
              go_wp2_with fail
              go_roundw
              case rel =>
                refine ⟨k + 1, true, by simp [he4], by go_num, by omega, by omega, ?_, ?_⟩
                · rw [← HC.out, HST.out]; simp [HE.out]
                · rw [hw0]; exact HF3.out.drewN nq
              case measure => simp [intOf]; omega
        · have t2 : decide (k < l.length) = false := by simpa using hkl
          have HC2 : Hid (c = !((l.drop (j + 1)).any (fun y => decide (y.key = x.key)))) := Lib.hid (by rw [← HC.out, List.drop_of_length_le (by omega)]; simp)
          clear k1
          cases c
          · go_wp2_with fail
            go_roundw
            case rel =>
              refine ⟨j + 1, o, by go_num, by omega, HO2.out, ?_, by omega, HF2.out⟩
              have h1 := HSTEP.out
              have h2 := HC2.out
              have h3 : (l.drop (j + 1)).any (fun y => decide (y.key = x.key)) = true := by
                cases hh : (l.drop (j + 1)).any (fun y => decide (y.key = x.key)) with
                | true => rfl
                | false => rw [hh] at h2; cases h2
              rw [if_pos h3] at h1
              rw [← h1]; exact HS.out
            case measure => simp [intOf]; omega
          · have h3 : Hid ((l.drop (j + 1)).any (fun y => decide (y.key = x.key)) = false) := Lib.hid (by
              have h2 := HC2.out
              cases hh : (l.drop (j + 1)).any (fun y => decide (y.key = x.key)) with
              | false => rfl
              | true => rw [hh] at h2; cases h2)
            obtain ⟨wq, hwq⟩ : ∃ wq, wq = wr := ⟨_, rfl⟩
            clear HC HC2 HF3
            go_wp2_with fail
            rw [← hwq]
            go_loopw [7] (fun i wr => ∃ a : Nat, i = .int .i64 a ∧ a ≤ o.length ∧ LowTo Ev.key x.key o a ∧ Fr [] wq wr) (fun i _ => o.length - (intOf i).toNat)
            case atStart => exact ⟨0, rfl, Nat.zero_le _, LowTo.zero _ _, Fr.refl _ _⟩
            case round =>
              obtain ⟨a, rfl, ha, hlow, hf4⟩ := hrel
              have HF0 := Lib.hid hf4
              rw [hwq] at hf4
              have HF0' := Lib.hid hf4
              have HLOW := Lib.hid hlow
              have HO4 := Lib.hid (HO2.out.keep hf4)
              have HF4 := Lib.hid (HF2.out.trans hf4 (by simp))
              obtain ⟨p0, p1, p2, p3⟩ := HPX.out.keep hf4 (by simp)
              clear hlow hf4
              obtain ⟨s3, c3, rfl, lo3, mo3⟩ := HO4.out.lies.form
              unfold maxLen at mo3
              by_cases hgo : ∃ y, o[a]? = some y ∧ kl y.key x.key = true
              · obtain ⟨y, hy, hk⟩ := hgo
                have hao : a < o.length := (List.getElem?_eq_some_iff.1 hy).1
                obtain ⟨g2, off2, d2, e2, _, l2, k2⟩ := EvAt.here HO4.out.lies (by omega)
                cases e2
                obtain ⟨r0, r1, r2, r3⟩ := k2 a y hy
                have HST := Lib.hid (HLOW.out.step hy hk)
                have t3 : decide (a < o.length) = true := by simpa using hao
                have hk2 : Op.bytesLess y.key.toList x.key.toList = true := hk
                clear hy k2
                go_wp2_with fail
                go_quiet (fail)
                go_wp2_with fail
                go_roundw
                case rel => exact ⟨a + 1, by go_num, by omega, HST.out, HF0.out.drewN nq⟩
                case measure => simp [intOf]; omega
              · have HTD : Hid (o.take a = lowB Ev.key x.key o ∧ o.drop a = highB Ev.key x.key o) := by
                  by_cases hao : a < o.length
                  · refine Lib.hid (HLOW.out.stop (List.getElem?_eq_getElem hao) ?_)
                    cases hk : kl (o[a]).key x.key with
                    | false => rfl
                    | true => exact absurd ⟨_, List.getElem?_eq_getElem hao, hk⟩ hgo
                  · exact Lib.hid (HLOW.out.all (by omega))
                have HFORM : Hid ((s3 = none ∧ c3 = 0 ∧ o = []) ∨ ∃ g2 off2, s3 = some ⟨g2, off2, none⟩) := Lib.hid (by
                  rcases HO4.out.lies.2 with ⟨e, ho0⟩ | ⟨g2, off2, cap, cur, e, _⟩
                  · simp only [Value.slice.injEq] at e
                    exact Or.inl ⟨e.1, e.2.2, List.eq_nil_of_length_eq_zero ho0⟩
                  · simp only [Value.slice.injEq] at e
                    exact Or.inr ⟨g2, off2, e.1⟩)
                by_cases hao : a < o.length
                focus
                  (obtain ⟨g2, off2, d2, e2, _, l2, k2⟩ := EvAt.here HO4.out.lies (by omega)
                   cases e2
                   obtain ⟨y, hy⟩ : ∃ y, o[a]? = some y := ⟨_, List.getElem?_eq_getElem hao⟩
                   obtain ⟨r0, r1, r2, r3⟩ := k2 a y hy
                   have t3 : decide (a < o.length) = true := by simpa using hao
                   have hk2 : Op.bytesLess y.key.toList x.key.toList = false := by
                     cases hk : Op.bytesLess y.key.toList x.key.toList with
                     | false => rfl
                     | true => exact absurd ⟨y, hy, hk⟩ hgo
                   clear hy k2 hgo
                   go_wp2_with fail
                   go_quiet (fail)
                   clear r0 r1 r2 r3 t3 hk2)
                rotate_left
                focus
                  (have t3 : decide (a < o.length) = false := by simpa using hao
                   clear hgo
                   go_wp2_with fail
                   go_quiet (fail)
                   clear t3)
                all_goals
                  go_wp2_with (at_builtin; refine go_stop ?_)
                  unfold Stop
                  have hal : (o.take a).length = a := by rw [List.length_take]; omega
                  have hdl : (o.drop a).length = o.length - a := by rw [List.length_drop]
                  obtain ⟨wz, hwz⟩ : ∃ wz, wz = wr.drewN nq := ⟨_, rfl⟩
                  have HOz := Lib.hid (HO4.out.keep ((Fr.refl [] wr).drewN nq))
                  have HFz := Lib.hid (HF4.out.drewN nq)
                  have HPz := Lib.hid ((HPX.out.keep HF0'.out (by simp)).keep ((Fr.refl [] wr).drewN nq) (by simp))
                  have hsz : wz.heap.size = wr.heap.size := by rw [hwz]; rfl
                  rw [← hwz] at HOz HFz HPz ⊢
                  clear hwz p0 p1 p2 p3
                  refine wpList_append_any rfl (.tmp 58) (.tmp 61) 30 67 (.agg #[.int .i64 0, .string ⟨#[]⟩, .string ⟨#[]⟩, .bool false]) 4 48 rfl ev_slice ev_info rfl (by decide) (.slice (some ⟨wr.heap.size, 0, none⟩) 0 0) 0 [] rfl (lies_empty _ _ _ _ hsz) _ a (allC Ev.cells (o.take a)) rfl (by rw [← allC_take Ev.clen o a (by omega)]; exact Lies.take (HOz.out.lies.keep0 ((Fr.refl [] wz).alloc _)) (by omega)) (allC_ones Ev.cone _) (by unfold maxLen; omega) (by omega) ?_
                  intro v1 w1 h1 h2 h3
                  have ha : OutAt Ev.cells 67 4 wz (wz.alloc (.cells #[] 67)) (.slice (some ⟨wr.heap.size, 0, none⟩) 0 0) [] := ⟨lies_empty _ _ _ _ hsz, by simp [Value.ownBlock]; omega⟩
                  have HA1 : Hid (OutAt Ev.cells 67 4 wz w1 v1 (o.take a)) := Lib.hid (OutAt.app ha (B := wz.heap.size + 1) (by omega) (xs := o.take a) (by simpa [allC] using h1) hal (by simpa using h3))
                  have HG1 := Lib.hid (OutAt.fr ha ((Fr.refl [] wz).alloc _) h2)
                  clear h1 h2 h3 ha
                  obtain ⟨p0, p1, p2, p3⟩ := HPz.out.keep HG1.out (by simp)
                  go_wp2_with (at_builtin; refine go_stop ?_)
                  unfold Stop
                  refine wpList_append_any rfl (.tmp 63) (.tmp 68) 30 67 (.agg #[.int .i64 0, .string ⟨#[]⟩, .string ⟨#[]⟩, .bool false]) 4 48 rfl ev_slice ev_info rfl (by decide) v1 (o.take a).length (allC Ev.cells (o.take a)) rfl (HA1.out.lies.keep0 ((Fr.refl [] _).alloc _)) _ 1 x.cells rfl (lies_row w1 67 x.cells rfl _ rfl) x.cone (by unfold maxLen; omega) (by omega) ?_
                  intro v2 w2 h1 h2 h3
                  have ha := (HA1.out.keep ((Fr.refl [] w1).alloc (.cells x.cells.toArray 67)))
                  have HA2 := Lib.hid (OutAt.app ha (B := w1.heap.size + 1) (by have := HG1.out.size; omega) (xs := [x]) (by rw [allC_one]; exact h1) rfl (by simpa using h3))
                  have HG2 := Lib.hid (OutAt.fr ha (HG1.out.alloc _) h2)
                  clear h1 h2 h3 ha p0 p1 p2 p3
                  have HINS : Hid (o.take a ++ [x] ++ o.drop a = insE x o) := Lib.hid (by rw [HTD.out.1, HTD.out.2]; unfold insE; simp)
                  have h24 : (o.take a ++ [x]).length = a + 1 := by rw [List.length_append, hal]; rfl
                  rcases HFORM.out with ⟨hs3, hc3, ho3⟩ | ⟨g3, off3, hs3⟩
                  · cases hs3
                    all_goals (
                      subst ho3 hc3
                      obtain rfl : a = 0 := by simpa using ha
                      go_wp2_with (at_builtin; refine go_stop ?_)
                      unfold Stop
                      refine wpList_append_any rfl (.tmp 70) (.tmp 73) 30 67 (.agg #[.int .i64 0, .string ⟨#[]⟩, .string ⟨#[]⟩, .bool false]) 4 48 rfl ev_slice ev_info rfl (by decide) v2 (List.take 0 ([] : List Ev) ++ [x]).length (allC Ev.cells (List.take 0 ([] : List Ev) ++ [x])) rfl HA2.out.lies _ 0 (allC Ev.cells ([] : List Ev)) rfl (Lies.nil _ _ _) (allC_ones Ev.cone _) (by unfold maxLen; simp) (by simp) ?_
                      intro v3 w3 k1 k2 k3
                      have HA3 := Lib.hid (OutAt.app HA2.out (B := w2.heap.size) HG2.out.size (xs := ([] : List Ev)) k1 rfl k3)
                      have HG3 := Lib.hid (OutAt.fr HA2.out HG2.out k2)
                      clear k1 k2 k3
                      go_wp2_with fail
                      go_roundw
                      case rel =>
                        refine ⟨j + 1, insE x [], by go_num, by omega, ⟨by have h9 := HA3.out.lies; rw [show List.take 0 ([] : List Ev) ++ [x] ++ [] = insE x [] from HINS.out] at h9; exact h9, fun k hk => ?_⟩, ?_, ?_, HFz.out.trans HG3.out (by simp)⟩
                        · have := HA3.out.new k hk; have := HFz.out.size; omega
                        · have h1 := HSTEP.out
                          rw [if_neg (by rw [h3.out]; simp)] at h1
                          rw [← h1]; exact HS.out
                        · have := congrArg List.length HINS.out; simp only [List.length_append, List.length_cons, List.length_nil] at this; omega
                      case measure => simp [intOf]; omega)
                  · cases hs3
                    go_wp2_with (refine wpList_slice_from rfl (.tmp 71) (.tmp 72) 30 67 (.agg #[.int .i64 0, .string ⟨#[]⟩, .string ⟨#[]⟩, .bool false]) 4 48 rfl ev_slice ev_info _ _ o.length c3 a (o.length - a) rfl rfl (by omega) (by omega) ?sl)
                    case sl =>
                    intro off4 hcut
                    have HSRC := Lib.hid (Lies.drop (HOz.out.lies.keep0 HG2.out) (m := o.length - a) (k := a) (by omega) hcut)
                    rw [allC_drop Ev.clen o a (by omega)] at HSRC
                    clear hcut
                    go_wp2_with (at_builtin; refine go_stop ?_)
                    unfold Stop
                    refine wpList_append_any rfl (.tmp 70) (.tmp 73) 30 67 (.agg #[.int .i64 0, .string ⟨#[]⟩, .string ⟨#[]⟩, .bool false]) 4 48 rfl ev_slice ev_info rfl (by decide) v2 (o.take a ++ [x]).length (allC Ev.cells (o.take a ++ [x])) rfl HA2.out.lies _ (o.length - a) (allC Ev.cells (o.drop a)) rfl HSRC.out (allC_ones Ev.cone _) (by unfold maxLen; omega) (by omega) ?_
                    intro v3 w3 k1 k2 k3
                    have HA3 := Lib.hid (OutAt.app HA2.out (B := w2.heap.size) HG2.out.size (xs := o.drop a) k1 hdl k3)
                    have HG3 := Lib.hid (OutAt.fr HA2.out HG2.out k2)
                    clear k1 k2 k3
                    go_wp2_with fail
                    go_roundw
                    case rel =>
                      refine ⟨j + 1, insE x o, by go_num, by omega, ⟨by have h9 := HA3.out.lies; rw [HINS.out] at h9; exact h9, fun k hk => ?_⟩, ?_, ?_, HFz.out.trans HG3.out (by simp)⟩
                      · have := HA3.out.new k hk; have := HFz.out.size; omega
                      · have h1 := HSTEP.out
                        rw [if_neg (by rw [h3.out]; simp)] at h1
                        rw [← h1]; exact HS.out
                      · have := congrArg List.length HINS.out; simp only [List.length_append, List.length_cons, List.length_nil] at this; omega
                    case measure => simp [intOf]; omega
    · have t1 : decide (j < l.length) = false := by simpa using h
      go_wp2
      go_ret
      refine ⟨_, rfl, ?_, HF.out⟩
      have := HS.out
      rw [List.drop_of_length_le (by omega)] at this
      have e : o = lastE l := this
      rw [← e]
      exact HO.out.lies
end Go.Proofs.Ytmbfcdoemcffpaa
