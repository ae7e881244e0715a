/- Calls that were one behind the other, 12 at most, fit any set of 20 keys at most just if each told what it tells, done in that turn: for every set and every list of calls. No condition. -/
import Derived.Test.YtbbhekmhffhpfaaOrAw
import Derived.Test.YtbbhekmhffhpfaaOrRun
import Derived.Test.YtbbhekmhffhpfaaOrLaw
namespace Go.Proofs.Ytbbhekmhffhpfaa.lawOrderRuns
open Go.ChangeShapes Go.WideShapes Go.ChangeAt Go.RowKit Go.Deep Go.ChangeMaps
set_option linter.unusedVariables false
set_option linter.unusedSimpArgs false

set_option maxRecDepth 100000 in
set_option maxHeartbeats 4000000 in
theorem walk (fv lv : Value) (first : List ByteArray) (l : List Ca) (w : World) (hf : SsIn w fv first) (hl : CaIn w lv l) :
    Calls Try.prog 4 #[fv, lv] w fun e w' => e = .returned (.bool true) ∧ Below w.heap.size w w' := by
  obtain ⟨fs, fc, rfl, fa, fb⟩ := LIn.form hf
  obtain ⟨ls, lc, rfl, la, lb⟩ := LIn.form hl
  unfold maxLen at fb lb
  have HF := Lib.hid hf
  have HL := Lib.hid hl
  clear hf hl
  obtain ⟨SK, hSK⟩ : ∃ b, b = (decide ((20 : Int) < (first.length : Int)) || decide ((12 : Int) < (l.length : Int))) := ⟨_, rfl⟩
  have HSK := Lib.hid hSK
  clear hSK
  go_enter Try.func4, Try.ntmps4
  go_wp2_with (go_at_call 9; refine (or_awake _).mono ?_; rintro e w1 ⟨rfl, hf⟩; refine go_stop ?_)
  unfold Stop
  have HF1 := Lib.hid hf
  clear hf
  go_upto_region 2 with fail
  go_cut [20] (fun v wx => v = .bool SK ∧ wx = w1)
  case first =>
    by_cases g1 : decide ((20 : Int) < (first.length : Int)) = true
    · go_wp2_with fail
      go_meet
      exact ⟨by rw [HSK.out, g1]; rfl, rfl⟩
    · replace g1 : decide ((20 : Int) < (first.length : Int)) = false := by simpa using g1
      go_wp2_with fail
      go_meet
      exact ⟨by rw [HSK.out, g1]; rfl, rfl⟩
  case rest =>
  obtain ⟨rfl, rfl⟩ := hcut
  obtain ⟨w1, hw1⟩ : ∃ x, x = wc := ⟨_, rfl⟩
  subst hw1
  cases SK
  · have hb : first.length ≤ 20 ∧ l.length ≤ 12 := by
      have h := HSK.out.symm
      simp only [Bool.or_eq_false_iff, decide_eq_false_iff_not] at h
      omega
    obtain ⟨hb1, hb2⟩ := hb
    go_wp2_with (go_at_call 10; refine (or_made _ l _ (LIn.keep0 HL.out HF1.out) (by omega)).mono ?_; rintro e w2 ⟨v, rfl, ho, hf⟩; refine go_stop ?_)
    unfold Stop
    have HF2 := Lib.hid (Fr.trans (T := []) HF1.out hf (by simp))
    obtain ⟨s3, c3, rfl, lb3, mb3⟩ := LAt.form ho.lies
    unfold maxLen at mb3
    have HNEW := Lib.hid ho.new
    have HX := Lib.hid ho
    have HFM := Lib.hid hf
    have HSF := Lib.hid (SsFar.old (v := .slice s3 l.length c3) (LIn.keep0 HF.out HF1.out) hf ho.new)
    have HXL := Lib.hid (LAt.lt ho.lies)
    clear ho hf
    go_wp2_with fail
    go_loopw [6, 7, 9] (fun sv f i wr => ∃ (j : Nat) (s : List ByteArray), i = .int .i64 j ∧ j ≤ l.length ∧ f = .bool (told (inS first) (l.take j)) ∧ CaOut w1 wr (.slice s3 l.length c3) (turnL seqC l j) ∧ SsFar wr (.slice s3 l.length c3) sv s ∧ inS s = upAll (inS first) (l.take j) ∧ s.length ≤ 20 + j ∧ Fr [] w1 wr ∧ w2.heap.size ≤ wr.heap.size) (fun _ _ i _ => l.length - (intOf i).toNat)
    case atStart => exact ⟨0, first, rfl, Nat.zero_le _, rfl, by rw [turnL_zero]; exact HX.out, HSF.out, rfl, by omega, HFM.out, Nat.le_refl _⟩
    case round =>
      obtain ⟨j, s, rfl, hj, rfl, hx, hs, hst, hsl, hf, hsz⟩ := hrel
      obtain ⟨ss, sc, rfl, sa, sb⟩ := LIn.form hs.1
      have HXJ := Lib.hid hx
      have HSJ := Lib.hid hs
      have HST := Lib.hid hst
      have HFJ := Lib.hid hf
      have HSZ := Lib.hid hsz
      obtain ⟨F, hF⟩ : ∃ b, b = told (inS first) (l.take j) := ⟨_, rfl⟩
      rw [← hF]
      have HFF := Lib.hid hF
      clear hx hs hst hf hF hsz
      by_cases h : j < l.length
      · obtain ⟨c, hc⟩ : ∃ c, l[j]? = some c := ⟨_, List.getElem?_eq_getElem h⟩
        have t1 : decide (j < l.length) = true := by simpa using h
        obtain ⟨gl, ol, d2, e2, hgl, l2, k2⟩ := CaIn.here (LIn.keep0 HL.out (Fr.trans (T := []) HF1.out HFJ.out (by simp))) (by omega)
        simp only [Value.slice.injEq] at e2
        obtain ⟨rfl, _, rfl⟩ := e2
        have Y1 := k2 j c hc
        obtain ⟨y0, y1, y2, y3, y4⟩ := Y1
        have HC := Lib.hid hc
        obtain ⟨OK, hOK⟩ : ∃ b, b = doOk c.kind (inS s c.key) := ⟨_, rfl⟩
        have HDO : Hid (Calls Try.prog 15 #[.slice ss s.length sc, c.agg] wr fun e w' => ∃ v, e = .returned (.tuple #[v, .bool OK]) ∧ SsIn w' v (doL s c) ∧ Fr [] wr w' ∧ (v = .slice ss s.length sc ∨ ∀ k, v.ownBlock = some k → wr.heap.size ≤ k)) := Lib.hid (by rw [hOK]; exact rr_do_new _ s c wr HSJ.out.1 (by omega))
        have HOK := Lib.hid hOK
        clear hc k2 hOK
        go_wp2_with (go_at_call 15; refine HDO.out.mono ?_; rintro e w3 ⟨v, rfl, hv, hf, hn⟩; refine go_stop ?_)
        unfold Stop
        obtain ⟨sv2, sc2, rfl, sa2, sb2⟩ := LIn.form hv
        have HF3 := Lib.hid (Fr.trans (T := []) HFJ.out hf (by simp))
        have HSZ3 := Lib.hid (Nat.le_trans HSZ.out hf.size)
        have hx3 : CaOut w1 w3 (.slice s3 l.length c3) (turnL seqC l j) := HXJ.out.keep hf
        have HS3 := Lib.hid (SsFar.did HSJ.out hv (LAt.lt HXJ.out.lies) hn)
        obtain ⟨gx, ox, cx, ex, hgx, _, kx⟩ := LAt.here hx3.lies Ca.clen (by rw [turnL_len]; omega)
        rw [turnL_len] at ex
        simp only [Value.slice.injEq] at ex
        obtain ⟨rfl, _, rfl⟩ := ex
        have HX3 := Lib.hid hx3
        have z3 := kx j c (turnL_here HC.out) 3 (by decide)
        have z4 := kx j c (turnL_here HC.out) 4 (by decide)
        obtain ⟨z3, f3⟩ := z3
        obtain ⟨z4, f4⟩ := z4
        have e3 : c.cells[3]? = some (.int .i64 c.inv) := rfl
        have e4 : c.cells[4]? = some (.int .i64 c.ret) := rfl
        rw [e3, ← Nat.add_assoc] at z3
        rw [e4, ← Nat.add_assoc] at z4
        rw [← Nat.add_assoc] at f3 f4
        have y2' := hf.cell y2 (by simp)
        obtain ⟨CO, hCO⟩ : ∃ b, b = c.ok := ⟨_, rfl⟩
        rw [← hCO] at y2'
        have HCO := Lib.hid hCO
        obtain ⟨F', hF'⟩ : ∃ b, b = told (inS first) (l.take (j + 1)) := ⟨_, rfl⟩
        have HF' : Hid (F' = (F && (OK == CO))) := Lib.hid (by
          rw [hF', take_snocR HC.out, told_snoc, ← HFF.out, HOK.out, HST.out, HCO.out])
        have HFP := Lib.hid hF'
        have HGX := Lib.hid hgx
        clear hf hv hn hx3 kx e3 e4 hCO hF' y0 y1 y2 y3 y4
        go_upto_region 12 with fail
        go_cut [7] (fun v wx => v = .bool F' ∧ wx = w3)
        case first =>
          cases F
          · go_wp2_with fail
            go_meet
            exact ⟨by rw [HF'.out]; rfl, rfl⟩
          · go_wp2_with fail
            go_meet
            exact ⟨by rw [HF'.out]; rfl, rfl⟩
        case rest =>
        obtain ⟨rfl, rfl⟩ := hcut
        obtain ⟨w3, hw3⟩ : ∃ x, x = wc := ⟨_, rfl⟩
        subst hw3
        obtain ⟨WF, hWF⟩ : ∃ W, W = (w3.setCell ⟨gx, ox + j * 5 + 3, none⟩ (.int .i64 (2 * (j : Int)))).setCell ⟨gx, ox + j * 5 + 4, none⟩ (.int .i64 (2 * (j : Int) + 1)) := ⟨_, rfl⟩
        have HW1 := HNEW.out gx rfl
        have HX4 : Hid (CaOut w1 WF (.slice (some ⟨gx, ox, none⟩) l.length c3) (turnL seqC l (j + 1))) := Lib.hid (by
          have h1 := HX3.out.setN (q := 3) (x' := ⟨c.kind, c.key, c.ok, 2 * (j : Int), c.ret⟩) (u := .int .i64 (2 * (j : Int))) turnL_len (turnL_here HC.out) (by decide) rfl
          have h3 := h1.setN (i := j) (q := 4) (x := ⟨c.kind, c.key, c.ok, 2 * (j : Int), c.ret⟩) (x' := seqC j c) (u := .int .i64 (2 * (j : Int) + 1)) (by rw [List.length_set, turnL_len]) (by rw [List.getElem?_set, if_pos rfl, if_pos (by rw [turnL_len]; exact h)]) (by decide) rfl
          rw [List.set_set, turnL_step HC.out] at h3
          rw [hWF]; exact h3)
        have HS4 : Hid (SsFar WF (.slice (some ⟨gx, ox, none⟩) l.length c3) (.slice sv2 (doL s c).length sc2) (doL s c)) := Lib.hid (HS3.out.keep (by rw [hWF]; exact ((Fr.refl _ w3).setCell (Or.inl (by simp [Value.ownBlock])) _).setCell (Or.inl (by simp [Value.ownBlock])) _))
        have HF4 : Hid (Fr [] w1 WF) := Lib.hid (by rw [hWF]; exact (HF3.out.setCell (Or.inr HW1) _).setCell (Or.inr HW1) _)
        have HSZ4 : Hid (w2.heap.size ≤ WF.heap.size) := Lib.hid (by
          rw [hWF, World.size_setCell, World.size_setCell]
          exact HSZ3.out)
        have HUP : Hid (inS (doL s c) = upAll (inS first) (l.take (j + 1))) := Lib.hid (by rw [doL_in, HST.out, take_snocR HC.out, upAll_snoc])
        have HDL := Lib.hid (doL_len s c)
        have HWF := Lib.hid hWF
        clear hWF HW1
        go_wp2_with fail
        rw [← HWF.out]
        go_roundw
        case rel => exact ⟨j + 1, doL s c, by go_num, by omega, by rw [HFP.out], HX4.out, HS4.out, HUP.out, by have := HDL.out; omega, HF4.out, HSZ4.out⟩
        case measure => simp [intOf]; omega
      · have t1 : decide (j < l.length) = false := by simpa using h
        have ej : j = l.length := by omega
        subst ej
        have HR : Hid (∀ W, Fr [] wr W → Calls Try.prog 13 #[.slice fs first.length fc, .slice s3 l.length c3] W fun e w' => e = .returned (.bool F) ∧ Fr [] W w') := Lib.hid fun W hW => by
          have h := or_fits (.slice fs first.length fc) (.slice s3 l.length c3) first (turnL seqC l l.length) W (LIn.keep0 HF.out (Fr.trans (T := []) HF1.out (Fr.trans (T := []) HFJ.out hW (by simp)) (by simp))) (LIn.keep0 (LAt.read HXJ.out.lies Ca.clen) hW)
          rw [runs_eq hb2] at h
          rw [HFF.out, List.take_length]; exact h
        go_wp2_with (go_at_call 13; refine (HR.out _ (Fr.refl _ _)).mono ?_; rintro e w3 ⟨rfl, hf⟩; have HF3 := Lib.hid (Fr.trans (T := []) HF1.out (Fr.trans (T := []) HFJ.out hf (by simp)) (by simp)); clear hf)
        go_ret
        refine ⟨?_, HF3.out.below (Nat.le_refl _) (by simp)⟩
        first | rfl | (cases F <;> rfl)
  · go_wp2_with fail
    go_ret
    exact ⟨rfl, HF1.out.below (Nat.le_refl _) (by simp)⟩

set_option maxRecDepth 100000 in
theorem contract (H : Type) (enc : TypeId × Value → H) (W : World) (base : Nat) (args : Array Value) (ds gs : List (DataW H)) (before : List MemPlace)
    (hval0 : ∀ (j : Nat) t v, Try.f4.params[j]? = some t → args[j]? = some v → Value.okWide Try.prog W .any base t v)
    (hW : DataW.Whole enc Try.prog Try.f4.params.toList Rows.orderRunsSpec.vars false W args.toList ds gs before) :
    Calls Try.prog 4 args W fun e W' => ∃ v, e = .returned v ∧ Rows.orderRunsSpec.post enc Try.prog Try.f4 false true false false W args v W' := by
  have hval : ∀ (j : Nat) t v, Try.f4.params[j]? = some t → args[j]? = some v → Value.okWide Try.prog W .any base t v := hval0
  have hW' := hW
  obtain ⟨p, q, hA0, hV, rfl, hfz, hnd⟩ := hW
  have hA : DataW.TrodAll enc Try.prog W 0 (fun _ => true) true Try.f4.params.toList args.toList ds p := hA0
  rw [Try.params4] at hA hval
  obtain ⟨v0, vs0, d0, ds0, p0, q0, hargs, rfl, rfl, h0, r0⟩ := trodAll_cons hA
  obtain ⟨v1, vs1, d1, ds1, p1, q1, rfl, rfl, rfl, h1, r1⟩ := trodAll_cons r0
  obtain ⟨rfl, rfl, rfl⟩ := trodAll_nil r1
  obtain rfl : args = #[v0, v1] := by cases args; simp_all
  obtain ⟨rfl, rfl⟩ := trodVars_none hV
  have k0 := h0
  have lt0 : ∀ x ∈ p0, x.block < W.heap.size := by obtain ⟨m, hm⟩ := k0; exact DataW.trod_lt m _ _ _ hm
  have k1 := h1
  have lt1 : ∀ x ∈ p1, x.block < W.heap.size := by obtain ⟨m, hm⟩ := k1; exact DataW.trod_lt m _ _ _ hm
  obtain ⟨first, hfirst⟩ := open_strs (hval 0 22 v0 rfl rfl) h0
  obtain ⟨l, hl⟩ := open_cas (hval 1 23 v1 rfl rfl) h1
  clear hA0 hval0 hval
  refine (walk v0 v1 first l W hfirst hl).mono fun e W' ⟨he, bel⟩ => ?_
  subst he
  exact ⟨_, rfl, _, _, _, [], _, [], hW', trodAll_mk1 (shut_bool Try.underlying4 _), (trodAll_cons_mk (Below.trod laid_prog (by kernel_rfl) (of_decide_eq_true (by kernel_rfl)) k0 bel lt0) (trodAll_cons_mk (Below.trod laid_prog (by kernel_rfl) (of_decide_eq_true (by kernel_rfl)) k1 bel lt1) trodAll_mk0)), rfl, bel.frame _, fun h => by cases h⟩

set_option maxRecDepth 100000 in
theorem lifted (os : Os) (started : os.Started) (H : Type) (enc : TypeId × Value → H) :
    ReturnsInHanded {} Try.checked os 4 .any (Rows.orderRunsSpec.pre6 enc Try.prog Try.f4 Rows.orderRunsRow.domain false) (Rows.orderRunsSpec.post enc Try.prog Try.f4 false true false false) := by
  refine returnsInHanded_of_change (C := Try.checked) own_prog started (by kernel_rfl) Try.func4
    (ChangeSpec.witness6 (enc := enc) (C := Try.checked) false ⟨#[], #[.slice none 0 0, .slice none 0 0], []⟩ 8 (by kernel_rfl) (by kernel_rfl) (by kernel_rfl) (by kernel_rfl)) ?_
  intro W base args ds gs before hval hW _ _
  exact contract H enc W base args ds gs before hval hW

theorem proved : Rows.OrderRunsSaid :=
  OpenClaim.holds_of_wide 4 Try.f4 rfl rfl rfl rfl rfl rfl rfl ⟨rfl, rfl, rfl, rfl, rfl⟩ rfl rfl rfl rfl rfl (by kernel_rfl) Try.func4 (by kernel_rfl)
    (of_decide_eq_true (by kernel_rfl)) (by unfold Func.isWrapper; first | (rw [if_pos (by decide +kernel)]; kernel_rfl) | (rw [if_neg (by decide +kernel)]; exact ⟨rfl, rfl⟩))
    (fun os started H enc _ => lifted os started H enc)

end Go.Proofs.Ytbbhekmhffhpfaa.lawOrderRuns
