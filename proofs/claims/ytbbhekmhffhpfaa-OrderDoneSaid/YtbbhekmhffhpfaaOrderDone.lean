/- Calls, 12 at most, that were done in some turn, each told when it was done, answered behind that and begun ahead of it, fit: for every set of 20 keys at most, every list of calls and all widths. No condition. -/
import Derived.Test.YtbbhekmhffhpfaaOrAw
import Derived.Test.YtbbhekmhffhpfaaOrRun
import Derived.Test.YtbbhekmhffhpfaaOrLaw
namespace Go.Proofs.Ytbbhekmhffhpfaa.lawOrderDone
open Go.ChangeShapes Go.WideShapes Go.ChangeAt Go.RowKit Go.Deep Go.ChangeMaps
set_option linter.unusedVariables false
set_option linter.unusedSimpArgs false

set_option maxRecDepth 100000 in
set_option maxHeartbeats 4000000 in
theorem walk (fv lv wv : Value) (first : List ByteArray) (l : List Ca) (wide : List Nat) (w : World) (hf : SsIn w fv first) (hl : CaIn w lv l) (hwd : ByIn w wv wide) :
    Calls Try.prog 6 #[fv, lv, wv] w fun e w' => e = .returned (.bool true) ∧ Below w.heap.size w w' := by
  obtain ⟨fs, fc, rfl, fa, fb⟩ := LIn.form hf
  obtain ⟨ls, lc, rfl, la, lb⟩ := LIn.form hl
  unfold maxLen at fb lb
  obtain ⟨ws, wcp, rfl, wa, wb⟩ := LIn.form hwd.1
  unfold maxLen at wb
  have HWD := Lib.hid hwd
  clear hwd
  have HF := Lib.hid hf
  have HL := Lib.hid hl
  clear hf hl
  obtain ⟨SK, hSK⟩ : ∃ b, b = (decide ((20 : Int) < (first.length : Int)) || decide ((12 : Int) < (l.length : Int))) := ⟨_, rfl⟩
  have HSK := Lib.hid hSK
  clear hSK
  go_enter Try.func6, Try.ntmps6
  go_wp2_with (go_at_call 9; refine (or_awake _).mono ?_; rintro e w1 ⟨rfl, hf⟩; refine go_stop ?_)
  unfold Stop
  have HF1 := Lib.hid hf
  clear hf
  go_upto_region 2 with fail
  go_cut [21] (fun v wx => v = .bool SK ∧ wx = w1)
  case first =>
    by_cases g1 : decide ((20 : Int) < (first.length : Int)) = true
    · go_wp2_with fail
      go_meet
      exact ⟨by rw [HSK.out, g1]; rfl, rfl⟩
    · replace g1 : decide ((20 : Int) < (first.length : Int)) = false := by simpa using g1
      go_wp2_with fail
      go_meet
      exact ⟨by rw [HSK.out, g1]; rfl, rfl⟩
  case rest =>
  obtain ⟨rfl, rfl⟩ := hcut
  obtain ⟨w1, hw1⟩ : ∃ x, x = wc := ⟨_, rfl⟩
  subst hw1
  cases SK
  · have hb : first.length ≤ 20 ∧ l.length ≤ 12 := by
      have h := HSK.out.symm
      simp only [Bool.or_eq_false_iff, decide_eq_false_iff_not] at h
      omega
    obtain ⟨hb1, hb2⟩ := hb
    go_wp2_with (go_at_call 10; refine (or_made _ l _ (LIn.keep0 HL.out HF1.out) (by omega)).mono ?_; rintro e w2 ⟨v, rfl, ho, hf⟩; refine go_stop ?_)
    unfold Stop
    have HF2 := Lib.hid (Fr.trans (T := []) HF1.out hf (by simp))
    obtain ⟨s3, c3, rfl, lb3, mb3⟩ := LAt.form ho.lies
    unfold maxLen at mb3
    have HNEW := Lib.hid ho.new
    have HX := Lib.hid ho
    have HFM := Lib.hid hf
    have HSF := Lib.hid (SsFar.old (v := .slice s3 l.length c3) (LIn.keep0 HF.out HF1.out) hf ho.new)
    have HXL := Lib.hid (LAt.lt ho.lies)
    clear ho hf
    go_wp2_with fail
    go_loopw [8, 10] (fun sv i wr => ∃ (j : Nat) (s : List ByteArray), i = .int .i64 j ∧ j ≤ l.length ∧ CaOut w1 wr (.slice s3 l.length c3) (turnL (doneC first l wide) l j) ∧ SsFar wr (.slice s3 l.length c3) sv s ∧ inS s = upAll (inS first) (l.take j) ∧ s.length ≤ 20 + j ∧ Fr [] w1 wr ∧ w2.heap.size ≤ wr.heap.size) (fun _ i _ => l.length - (intOf i).toNat)
    case atStart => exact ⟨0, first, rfl, Nat.zero_le _, by rw [turnL_zero]; exact HX.out, HSF.out, rfl, by omega, HFM.out, Nat.le_refl _⟩
    case round =>
      obtain ⟨j, s, rfl, hj, hx, hs, hst, hsl, hf, hsz⟩ := hrel
      obtain ⟨ss, sc, rfl, sa, sb⟩ := LIn.form hs.1
      have HXJ := Lib.hid hx
      have HSJ := Lib.hid hs
      have HST := Lib.hid hst
      have HFJ := Lib.hid hf
      have HSZ := Lib.hid hsz
      clear hx hs hst hf hsz
      by_cases h : j < l.length
      · obtain ⟨c, hc⟩ : ∃ c, l[j]? = some c := ⟨_, List.getElem?_eq_getElem h⟩
        have t1 : decide (j < l.length) = true := by simpa using h
        obtain ⟨gl, ol, d2, e2, hgl, l2, k2⟩ := CaIn.here (LIn.keep0 HL.out (Fr.trans (T := []) HF1.out HFJ.out (by simp))) (by omega)
        simp only [Value.slice.injEq] at e2
        obtain ⟨rfl, _, rfl⟩ := e2
        have Y1 := k2 j c hc
        obtain ⟨y0, y1, y2, y3, y4⟩ := Y1
        have HC := Lib.hid hc
        obtain ⟨OK, hOK⟩ : ∃ b, b = doOk c.kind (inS s c.key) := ⟨_, rfl⟩
        have HDO : Hid (Calls Try.prog 15 #[.slice ss s.length sc, c.agg] wr fun e w' => ∃ v, e = .returned (.tuple #[v, .bool OK]) ∧ SsIn w' v (doL s c) ∧ Fr [] wr w' ∧ (v = .slice ss s.length sc ∨ ∀ k, v.ownBlock = some k → wr.heap.size ≤ k)) := Lib.hid (by rw [hOK]; exact rr_do_new _ s c wr HSJ.out.1 (by omega))
        have HOK := Lib.hid hOK
        clear hc k2 hOK
        go_wp2_with (go_at_call 15; refine HDO.out.mono ?_; rintro e w3 ⟨v, rfl, hv, hf, hn⟩; refine go_stop ?_)
        unfold Stop
        obtain ⟨sv2, sc2, rfl, sa2, sb2⟩ := LIn.form hv
        have HF3 := Lib.hid (Fr.trans (T := []) HFJ.out hf (by simp))
        have HSZ3 := Lib.hid (Nat.le_trans HSZ.out hf.size)
        have hx3 : CaOut w1 w3 (.slice s3 l.length c3) (turnL (doneC first l wide) l j) := HXJ.out.keep hf
        have HS3 := Lib.hid (SsFar.did HSJ.out hv (LAt.lt HXJ.out.lies) hn)
        obtain ⟨gx, ox, cx, ex, hgx, _, kx⟩ := LAt.here hx3.lies Ca.clen (by rw [turnL_len]; omega)
        rw [turnL_len] at ex
        simp only [Value.slice.injEq] at ex
        obtain ⟨rfl, _, rfl⟩ := ex
        have HX3 := Lib.hid hx3
        have z2 := kx j c (turnL_here HC.out) 2 (by decide)
        have z3 := kx j c (turnL_here HC.out) 3 (by decide)
        have z4 := kx j c (turnL_here HC.out) 4 (by decide)
        obtain ⟨z2, f2⟩ := z2
        obtain ⟨z3, f3⟩ := z3
        obtain ⟨z4, f4⟩ := z4
        have e2 : c.cells[2]? = some (.bool c.ok) := rfl
        have e3 : c.cells[3]? = some (.int .i64 c.inv) := rfl
        have e4 : c.cells[4]? = some (.int .i64 c.ret) := rfl
        rw [e2, ← Nat.add_assoc] at z2
        rw [e3, ← Nat.add_assoc] at z3
        rw [e4, ← Nat.add_assoc] at z4
        rw [← Nat.add_assoc] at f2 f3 f4
        have HGX := Lib.hid hgx
        have HW1 := Lib.hid (HNEW.out gx rfl)
        obtain ⟨wS, hwS⟩ : ∃ W, W = ((w3.setCell ⟨gx, ox + j * 5 + 2, none⟩ (.bool OK)).setCell ⟨gx, ox + j * 5 + 3, none⟩ (.int .i64 (100 * ((j : Int) + 1)))).setCell ⟨gx, ox + j * 5 + 4, none⟩ (.int .i64 (100 * ((j : Int) + 1))) := ⟨_, rfl⟩
        have HXS : Hid (CaOut w1 wS (.slice (some ⟨gx, ox, none⟩) l.length c3) ((turnL (doneC first l wide) l j).set j ⟨c.kind, c.key, OK, 100 * ((j : Int) + 1), 100 * ((j : Int) + 1)⟩)) := Lib.hid (by
          have h1 := HX3.out.setN (q := 2) (x' := ⟨c.kind, c.key, OK, c.inv, c.ret⟩) (u := .bool OK) turnL_len (turnL_here HC.out) (by decide) rfl
          have h2 := h1.setN (i := j) (q := 3) (x := ⟨c.kind, c.key, OK, c.inv, c.ret⟩) (x' := ⟨c.kind, c.key, OK, 100 * ((j : Int) + 1), c.ret⟩) (u := .int .i64 (100 * ((j : Int) + 1))) (by rw [List.length_set, turnL_len]) (by rw [List.getElem?_set, if_pos rfl, if_pos (by rw [turnL_len]; exact h)]) (by decide) rfl
          have h3 := h2.setN (i := j) (q := 4) (x := ⟨c.kind, c.key, OK, 100 * ((j : Int) + 1), c.ret⟩) (x' := ⟨c.kind, c.key, OK, 100 * ((j : Int) + 1), 100 * ((j : Int) + 1)⟩) (u := .int .i64 (100 * ((j : Int) + 1))) (by rw [List.length_set, List.length_set, turnL_len]) (by rw [List.getElem?_set, if_pos rfl, if_pos (by rw [List.length_set, turnL_len]; exact h)]) (by decide) rfl
          rw [List.set_set, List.set_set] at h3
          rw [hwS]; exact h3)
        have HFO : Hid (Fr [gx] w3 wS) := Lib.hid (by rw [hwS]; exact (((Fr.refl _ w3).setCell (Or.inl (by simp)) _).setCell (Or.inl (by simp)) _).setCell (Or.inl (by simp)) _)
        have HUP : Hid (inS (doL s c) = upAll (inS first) (l.take (j + 1))) := Lib.hid (by rw [doL_in, HST.out, take_snocR HC.out, upAll_snoc])
        have HDL := Lib.hid (doL_len s c)
        have HWS := Lib.hid hwS
        clear hf hv hn hx3 kx e2 e3 e4 hwS y0 y1 y2 y3 y4
        go_upto_region 14 with fail
        rw [← HWS.out]
        have HOKC : Hid (OK = doOk c.kind (upAll (inS first) (l.take j) c.key)) := Lib.hid (by rw [HOK.out, HST.out])
        have HSET : Hid (∀ x : Ca, ((turnL (doneC first l wide) l j).set j x)[j]? = some x) := Lib.hid (fun x => by rw [List.getElem?_set, if_pos rfl, if_pos (by rw [turnL_len]; exact h)])
        have HLEN : Hid (∀ x : Ca, ((turnL (doneC first l wide) l j).set j x).length = l.length) := Lib.hid (fun x => by rw [List.length_set, turnL_len])
        have HREL : Hid (∀ (W : World), CaOut w1 W (.slice (some ⟨gx, ox, none⟩) l.length c3) (turnL (doneC first l wide) l (j + 1)) → Fr [gx] w3 W → ∃ (j' : Nat) (s' : List ByteArray), (.int .i64 ((j : Int) + 1) : Value) = .int .i64 j' ∧ j' ≤ l.length ∧ CaOut w1 W (.slice (some ⟨gx, ox, none⟩) l.length c3) (turnL (doneC first l wide) l j') ∧ SsFar W (.slice (some ⟨gx, ox, none⟩) l.length c3) (.slice sv2 (doL s c).length sc2) s' ∧ inS s' = upAll (inS first) (l.take j') ∧ s'.length ≤ 20 + j' ∧ Fr [] w1 W ∧ w2.heap.size ≤ W.heap.size) := Lib.hid fun W hcw hfw =>
          ⟨j + 1, doL s c, by go_num, by omega, hcw, HS3.out.keep (by simpa [Value.ownBlock] using hfw), HUP.out, by have := HDL.out; omega, Fr.trans (T := [gx]) HF3.out hfw (fun x hx => Or.inr (by simp only [List.mem_singleton] at hx; subst hx; exact HW1.out)), Nat.le_trans HSZ3.out hfw.size⟩
        by_cases hjw : j < wide.length
        · obtain ⟨n, hn⟩ : ∃ n, wide[j]? = some n := ⟨_, List.getElem?_eq_getElem hjw⟩
          have t2 : decide (j < wide.length) = true := by simpa using hjw
          have hn256 : n < 256 := HWD.out.2 n (List.mem_of_getElem? hn)
          have HN : Hid (wdN wide j = n) := Lib.hid (by unfold wdN; rw [hn]; rfl)
          obtain ⟨gw, ow, cw, ew, hgw, _, kw⟩ := LIn.here HWD.out.1 (by omega)
          simp only [Value.slice.injEq] at ew
          obtain ⟨rfl, _, rfl⟩ := ew
          have q0 := kw j n hn 0 (by decide)
          rw [Nat.mul_one, Nat.add_zero] at q0
          have HQ : Hid (∀ W, Fr [gx] w3 W → W.cell? ⟨gw, ow + j, none⟩ = some (.int .u8 n)) := Lib.hid fun W hW => by
            have hw : Fr [] w W := Fr.trans (T := []) HF1.out (Fr.trans (T := [gx]) HF3.out hW (fun x hx => Or.inr (by simp only [List.mem_singleton] at hx; subst hx; exact HW1.out))) (by simp)
            exact hw.cell q0 (by simp)
          clear hn kw q0 z2 z3 z4 f2 f3 f4
          -- x[i].Inv = x[i].Inv - wide[i]
          have hd1 : Fr [gx] w3 wS.drew := HFO.out.drew
          have i3 := CaOut.cellN (HXS.out.keep (Fr.refl [] wS).drew) (HSET.out _) 3 (by decide) _ rfl
          obtain ⟨i3, j3, l3⟩ := i3
          have q1 := HQ.out _ hd1
          have HX5 : Hid (CaOut w1 (wS.drew.setCell ⟨gx, ox + j * 5 + 3, none⟩ (.int .i64 (100 * ((j : Int) + 1) - (n : Int)))) (.slice (some ⟨gx, ox, none⟩) l.length c3) ((turnL (doneC first l wide) l j).set j ⟨c.kind, c.key, OK, 100 * ((j : Int) + 1) - (n : Int), 100 * ((j : Int) + 1)⟩)) := Lib.hid (by
            have h1 := CaOut.setN (HXS.out.keep (Fr.refl [] wS).drew) (i := j) (q := 3) (x' := ⟨c.kind, c.key, OK, 100 * ((j : Int) + 1) - (n : Int), 100 * ((j : Int) + 1)⟩) (u := .int .i64 (100 * ((j : Int) + 1) - (n : Int))) (HLEN.out _) (HSET.out _) (by decide) rfl
            rw [List.set_set] at h1; exact h1)
          have HF5 : Hid (Fr [gx] w3 (wS.drew.setCell ⟨gx, ox + j * 5 + 3, none⟩ (.int .i64 (100 * ((j : Int) + 1) - (n : Int))))) := Lib.hid (hd1.setCell (Or.inl (by simp)) _)
          clear hd1
          go_upto_region 15 with fail
          refine wp_region_still_tail 15 (by kernel_rfl) (by kernel_rfl) ?_
          simp only [List.take_succ_cons, List.take_zero, List.drop_succ_cons, List.drop_zero]
          change wpStill _ _ wS.drew (fun a' => wpList _ _ _ _ a' wS.drew) _ _
          generalize wS.drew = wd at *
          repeat still_step
          refine wpStill_nil ?_
          go_upto_region 16 with fail
          generalize wd.setCell ⟨gx, ox + j * 5 + 3, none⟩ (.int .i64 (100 * ((j : Int) + 1) - (n : Int))) = wT at *
          clear i3 j3 l3 q1
          -- x[i].Ret = x[i].Ret + wide[i]
          have hd2 : Fr [gx] w3 wT.drew := HF5.out.drew
          have i4 := CaOut.cellN (HX5.out.keep (Fr.refl [] wT).drew) (HSET.out _) 4 (by decide) _ rfl
          obtain ⟨i4, j4, l4⟩ := i4
          have q1 := HQ.out _ hd2
          have HX6 : Hid (CaOut w1 (wT.drew.setCell ⟨gx, ox + j * 5 + 4, none⟩ (.int .i64 (100 * ((j : Int) + 1) + (n : Int)))) (.slice (some ⟨gx, ox, none⟩) l.length c3) ((turnL (doneC first l wide) l j).set j ⟨c.kind, c.key, OK, 100 * ((j : Int) + 1) - (n : Int), 100 * ((j : Int) + 1) + (n : Int)⟩)) := Lib.hid (by
            have h1 := CaOut.setN (HX5.out.keep (Fr.refl [] wT).drew) (i := j) (q := 4) (x' := ⟨c.kind, c.key, OK, 100 * ((j : Int) + 1) - (n : Int), 100 * ((j : Int) + 1) + (n : Int)⟩) (u := .int .i64 (100 * ((j : Int) + 1) + (n : Int))) (HLEN.out _) (HSET.out _) (by decide) rfl
            rw [List.set_set] at h1; exact h1)
          have HF6 : Hid (Fr [gx] w3 (wT.drew.setCell ⟨gx, ox + j * 5 + 4, none⟩ (.int .i64 (100 * ((j : Int) + 1) + (n : Int))))) := Lib.hid (hd2.setCell (Or.inl (by simp)) _)
          clear hd2
          refine wp_region_still_tail 15 (by kernel_rfl) (by kernel_rfl) ?_
          simp only [List.take_succ_cons, List.take_zero, List.drop_succ_cons, List.drop_zero]
          change wpStill _ _ wT.drew (fun a' => wpList _ _ _ _ a' wT.drew) _ _
          generalize wT.drew = wd2 at *
          repeat still_step
          refine wpStill_nil ?_
          go_upto_region 17 with fail
          generalize wd2.setCell ⟨gx, ox + j * 5 + 4, none⟩ (.int .i64 (100 * ((j : Int) + 1) + (n : Int))) = wU at *
          clear i4 j4 l4 q1
          have q1 := HQ.out _ HF6.out
          by_cases hm : n % 4 = 3
          · have i4 := CaOut.cellN HX6.out (HSET.out _) 4 (by decide) _ rfl
            obtain ⟨i4, j4, l4⟩ := i4
            have HEND : Hid (CaOut w1 (wU.setCell ⟨gx, ox + j * 5 + 4, none⟩ (.int .i64 (100 * ((j : Int) + 1) + (n : Int) + 500))) (.slice (some ⟨gx, ox, none⟩) l.length c3) (turnL (doneC first l wide) l (j + 1))) := Lib.hid (by
              rw [← turnL_step HC.out]
              have e : doneC first l wide j c = ⟨c.kind, c.key, OK, 100 * ((j : Int) + 1) - (n : Int), 100 * ((j : Int) + 1) + (n : Int) + 500⟩ := by
                unfold doneC
                rw [HN.out, ← HOKC.out]
                simp [moreN, hm]
              have h1 := CaOut.setN HX6.out (i := j) (q := 4) (x' := ⟨c.kind, c.key, OK, 100 * ((j : Int) + 1) - (n : Int), 100 * ((j : Int) + 1) + (n : Int) + 500⟩) (u := .int .i64 (100 * ((j : Int) + 1) + (n : Int) + 500)) (HLEN.out _) (HSET.out _) (by decide) rfl
              rw [List.set_set] at h1
              rw [e]; exact h1)
            have HF7 : Hid (Fr [gx] w3 (wU.setCell ⟨gx, ox + j * 5 + 4, none⟩ (.int .i64 (100 * ((j : Int) + 1) + (n : Int) + 500)))) := Lib.hid (HF6.out.setCell (Or.inl (by simp)) _)
            go_wp2_with fail
            generalize wU.setCell ⟨gx, ox + j * 5 + 4, none⟩ (.int .i64 (100 * ((j : Int) + 1) + (n : Int) + 500)) = wV at *
            go_roundw
            case rel => exact HREL.out wV HEND.out HF7.out
            case measure => simp [intOf]; omega
          · have HEND : Hid (CaOut w1 wU (.slice (some ⟨gx, ox, none⟩) l.length c3) (turnL (doneC first l wide) l (j + 1))) := Lib.hid (by
              rw [← turnL_step HC.out]
              have e : doneC first l wide j c = ⟨c.kind, c.key, OK, 100 * ((j : Int) + 1) - (n : Int), 100 * ((j : Int) + 1) + (n : Int)⟩ := by
                unfold doneC
                rw [HN.out, ← HOKC.out]
                simp [moreN, hm]
              rw [e]; exact HX6.out)
            go_wp2_with fail
            go_roundw
            case rel => exact HREL.out wU HEND.out HF6.out
            case measure => simp [intOf]; omega
        · have t2 : decide (j < wide.length) = false := by simpa using hjw
          have HEND : Hid (CaOut w1 wS (.slice (some ⟨gx, ox, none⟩) l.length c3) (turnL (doneC first l wide) l (j + 1))) := Lib.hid (by
            rw [← turnL_step HC.out]
            have e : doneC first l wide j c = ⟨c.kind, c.key, OK, 100 * ((j : Int) + 1), 100 * ((j : Int) + 1)⟩ := by
              have hw0 : wdN wide j = 0 := by unfold wdN; rw [List.getElem?_eq_none (by omega)]; rfl
              unfold doneC
              rw [hw0, ← HOKC.out]
              simp [moreN]
            rw [e]; exact HXS.out)
          clear z2 z3 z4 f2 f3 f4
          go_wp2_with fail
          go_roundw
          case rel => exact HREL.out wS HEND.out HFO.out
          case measure => simp [intOf]; omega
      · have t1 : decide (j < l.length) = false := by simpa using h
        have ej : j = l.length := by omega
        subst ej
        have HR : Hid (∀ W, Fr [] wr W → Calls Try.prog 13 #[.slice fs first.length fc, .slice s3 l.length c3] W fun e w' => e = .returned (.bool true) ∧ Fr [] W w') := Lib.hid fun W hW => by
          have h := or_fits (.slice fs first.length fc) (.slice s3 l.length c3) first (turnL (doneC first l wide) l l.length) W (LIn.keep0 HF.out (Fr.trans (T := []) HF1.out (Fr.trans (T := []) HFJ.out hW (by simp)) (by simp))) (LIn.keep0 (LAt.read HXJ.out.lies Ca.clen) hW)
          rw [done_fits hb2] at h
          exact h
        go_wp2_with (go_at_call 13; refine (HR.out _ (Fr.refl _ _)).mono ?_; rintro e w3 ⟨rfl, hf⟩; have HF3 := Lib.hid (Fr.trans (T := []) HF1.out (Fr.trans (T := []) HFJ.out hf (by simp)) (by simp)); clear hf)
        go_ret
        refine ⟨?_, HF3.out.below (Nat.le_refl _) (by simp)⟩
        rfl
  · go_wp2_with fail
    go_ret
    exact ⟨rfl, HF1.out.below (Nat.le_refl _) (by simp)⟩

set_option maxRecDepth 100000 in
theorem contract (H : Type) (enc : TypeId × Value → H) (W : World) (base : Nat) (args : Array Value) (ds gs : List (DataW H)) (before : List MemPlace)
    (hval0 : ∀ (j : Nat) t v, Try.f6.params[j]? = some t → args[j]? = some v → Value.okWide Try.prog W .any base t v)
    (hW : DataW.Whole enc Try.prog Try.f6.params.toList Rows.orderDoneSpec.vars false W args.toList ds gs before) :
    Calls Try.prog 6 args W fun e W' => ∃ v, e = .returned v ∧ Rows.orderDoneSpec.post enc Try.prog Try.f6 false true false false W args v W' := by
  have hval : ∀ (j : Nat) t v, Try.f6.params[j]? = some t → args[j]? = some v → Value.okWide Try.prog W .any base t v := hval0
  have hW' := hW
  obtain ⟨p, q, hA0, hV, rfl, hfz, hnd⟩ := hW
  have hA : DataW.TrodAll enc Try.prog W 0 (fun _ => true) true Try.f6.params.toList args.toList ds p := hA0
  rw [Try.params6] at hA hval
  obtain ⟨v0, vs0, d0, ds0, p0, q0, hargs, rfl, rfl, h0, r0⟩ := trodAll_cons hA
  obtain ⟨v1, vs1, d1, ds1, p1, q1, rfl, rfl, rfl, h1, r1⟩ := trodAll_cons r0
  obtain ⟨v2, vs2, d2, ds2, p2, q2, rfl, rfl, rfl, h2, r2⟩ := trodAll_cons r1
  obtain ⟨rfl, rfl, rfl⟩ := trodAll_nil r2
  obtain rfl : args = #[v0, v1, v2] := by cases args; simp_all
  obtain ⟨rfl, rfl⟩ := trodVars_none hV
  have k0 := h0
  have lt0 : ∀ x ∈ p0, x.block < W.heap.size := by obtain ⟨m, hm⟩ := k0; exact DataW.trod_lt m _ _ _ hm
  have k1 := h1
  have lt1 : ∀ x ∈ p1, x.block < W.heap.size := by obtain ⟨m, hm⟩ := k1; exact DataW.trod_lt m _ _ _ hm
  have k2 := h2
  have lt2 : ∀ x ∈ p2, x.block < W.heap.size := by obtain ⟨m, hm⟩ := k2; exact DataW.trod_lt m _ _ _ hm
  obtain ⟨first, hfirst⟩ := open_strs (hval 0 22 v0 rfl rfl) h0
  obtain ⟨l, hl⟩ := open_cas (hval 1 23 v1 rfl rfl) h1
  obtain ⟨wide, hwide⟩ := open_bytes8 (hval 2 36 v2 rfl rfl) h2
  clear hA0 hval0 hval
  refine (walk v0 v1 v2 first l wide W hfirst hl hwide).mono fun e W' ⟨he, bel⟩ => ?_
  subst he
  exact ⟨_, rfl, _, _, _, [], _, [], hW', trodAll_mk1 (shut_bool Try.underlying4 _), (trodAll_cons_mk (Below.trod laid_prog (by kernel_rfl) (of_decide_eq_true (by kernel_rfl)) k0 bel lt0) (trodAll_cons_mk (Below.trod laid_prog (by kernel_rfl) (of_decide_eq_true (by kernel_rfl)) k1 bel lt1) (trodAll_cons_mk (Below.trod laid_prog (by kernel_rfl) (of_decide_eq_true (by kernel_rfl)) k2 bel lt2) trodAll_mk0))), rfl, bel.frame _, fun h => by cases h⟩

set_option maxRecDepth 100000 in
theorem lifted (os : Os) (started : os.Started) (H : Type) (enc : TypeId × Value → H) :
    ReturnsInHanded {} Try.checked os 6 .any (Rows.orderDoneSpec.pre6 enc Try.prog Try.f6 Rows.orderDoneRow.domain false) (Rows.orderDoneSpec.post enc Try.prog Try.f6 false true false false) := by
  refine returnsInHanded_of_change (C := Try.checked) own_prog started (by kernel_rfl) Try.func6
    (ChangeSpec.witness6 (enc := enc) (C := Try.checked) false ⟨#[], #[.slice none 0 0, .slice none 0 0, .slice none 0 0], []⟩ 8 (by kernel_rfl) (by kernel_rfl) (by kernel_rfl) (by kernel_rfl)) ?_
  intro W base args ds gs before hval hW _ _
  exact contract H enc W base args ds gs before hval hW

theorem proved : Rows.OrderDoneSaid :=
  OpenClaim.holds_of_wide 6 Try.f6 rfl rfl rfl rfl rfl rfl rfl ⟨rfl, rfl, rfl, rfl, rfl⟩ rfl rfl rfl rfl rfl (by kernel_rfl) Try.func6 (by kernel_rfl)
    (of_decide_eq_true (by kernel_rfl)) (by unfold Func.isWrapper; first | (rw [if_pos (by decide +kernel)]; kernel_rfl) | (rw [if_neg (by decide +kernel)]; exact ⟨rfl, rfl⟩))
    (fun os started H enc _ => lifted os started H enc)

end Go.Proofs.Ytbbhekmhffhpfaa.lawOrderDone
