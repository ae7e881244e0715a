/- Whether any calls, 7 at most or more than 12, fit any set of 20 keys at most, and whether any one is ahead of another one: as the document says, for every set and every list of calls. No condition. -/
import Derived.Test.YtbbhekmhffhpfaaOrAw
import Derived.Test.YtbbhekmhffhpfaaOrRun
import Derived.Test.YtbbhekmhffhpfaaOrLaw
namespace Go.Proofs.Ytbbhekmhffhpfaa.lawOrderTells
open Go.ChangeShapes Go.WideShapes Go.ChangeAt Go.RowKit Go.Deep Go.ChangeMaps
set_option linter.unusedVariables false
set_option linter.unusedSimpArgs false

set_option maxRecDepth 100000 in
set_option maxHeartbeats 4000000 in
theorem walk (fv lv : Value) (first : List ByteArray) (l : List Ca) (w : World) (hf : SsIn w fv first) (hl : CaIn w lv l) :
    Calls Try.prog 3 #[fv, lv] w fun e w' => e = .returned (.bool true) ∧ Below w.heap.size w w' := by
  obtain ⟨fs, fc, rfl, fa, fb⟩ := LIn.form hf
  obtain ⟨ls, lc, rfl, la, lb⟩ := LIn.form hl
  unfold maxLen at fb lb
  have HF := Lib.hid hf
  have HL := Lib.hid hl
  clear hf hl
  obtain ⟨SK, hSK⟩ : ∃ b, b = (decide ((20 : Int) < (first.length : Int)) || (decide ((7 : Int) < (l.length : Int)) && decide ((l.length : Int) ≤ 12)) || decide ((20 : Int) < (l.length : Int))) := ⟨_, rfl⟩
  have HSK := Lib.hid hSK
  clear hSK
  go_enter Try.func3, Try.ntmps3
  go_wp2_with (go_at_call 9; refine (or_awake _).mono ?_; rintro e w1 ⟨rfl, hf⟩; refine go_stop ?_)
  unfold Stop
  have HF1 := Lib.hid hf
  clear hf
  go_upto_region 2 with fail
  go_cut [27] (fun v wx => v = .bool SK ∧ wx = w1)
  case first =>
    by_cases g1 : decide ((20 : Int) < (first.length : Int)) = true
    · go_wp2_with fail
      go_meet
      exact ⟨by rw [HSK.out, g1]; rfl, rfl⟩
    · replace g1 : decide ((20 : Int) < (first.length : Int)) = false := by simpa using g1
      by_cases g2 : decide ((7 : Int) < (l.length : Int)) = true
      · by_cases g3 : decide ((l.length : Int) ≤ 12) = true
        · go_wp2_with fail
          go_meet
          exact ⟨by rw [HSK.out, g1, g2, g3]; rfl, rfl⟩
        · replace g3 : decide ((l.length : Int) ≤ 12) = false := by simpa using g3
          go_wp2_with fail
          go_meet
          exact ⟨by rw [HSK.out, g1, g2, g3]; rfl, rfl⟩
      · replace g2 : decide ((7 : Int) < (l.length : Int)) = false := by simpa using g2
        go_wp2_with fail
        go_meet
        exact ⟨by rw [HSK.out, g1, g2]; rfl, rfl⟩
  case rest =>
  obtain ⟨rfl, rfl⟩ := hcut
  cases SK
  · have hb : first.length ≤ 20 ∧ l.length ≤ 20 := by
      have h := HSK.out.symm
      simp only [Bool.or_eq_false_iff, decide_eq_false_iff_not] at h
      obtain ⟨⟨h1, _⟩, h3⟩ := h
      omega
    have HB := Lib.hid hb
    clear hb
    go_wp2_with (go_at_call 10; refine (or_made _ l _ (LIn.keep0 HL.out HF1.out) (by have := HB.out; omega)).mono ?_; rintro e w2 ⟨v, rfl, ho, hf⟩; refine go_stop ?_)
    unfold Stop
    have HF2 := Lib.hid (Fr.trans (T := []) HF1.out hf (by simp))
    obtain ⟨s3, c3, rfl, lb3, mb3⟩ := LAt.form ho.lies
    unfold maxLen at mb3
    have HX : Hid (CaIn w2 (.slice s3 l.length c3) l) := Lib.hid (LAt.read ho.lies Ca.clen)
    have HL2 := Lib.hid (LIn.keep0 HL.out HF2.out)
    clear ho hf
    go_wp2_with fail
    go_loopw [7] (fun i wr => ∃ (j : Nat), i = .int .i64 j ∧ j ≤ l.length ∧ Fr [] w2 wr) (fun i _ => l.length - (intOf i).toNat)
    case atStart => exact ⟨0, rfl, Nat.zero_le _, Fr.refl _ _⟩
    case round =>
      obtain ⟨j, rfl, hj, hf⟩ := hrel
      have HFJ := Lib.hid hf
      clear hf
      by_cases h : j < l.length
      · obtain ⟨c, hc⟩ : ∃ c, l[j]? = some c := ⟨_, List.getElem?_eq_getElem h⟩
        have t1 : decide (j < l.length) = true := by simpa using h
        have HC := Lib.hid hc
        clear hc
        go_wp2_with fail
        obtain ⟨wO, hwO⟩ : ∃ x, x = wr := ⟨_, rfl⟩
        subst hwO
        go_loopw [8] (fun i wr => ∃ (k : Nat), i = .int .i64 k ∧ k ≤ l.length ∧ Fr [] wO wr) (fun i _ => l.length - (intOf i).toNat)
        case atStart => exact ⟨0, rfl, Nat.zero_le _, Fr.refl _ _⟩
        case round =>
          obtain ⟨k, rfl, hk, hf⟩ := hrel
          have HFK := Lib.hid (Fr.trans (T := []) HFJ.out hf (by simp))
          have HFO := Lib.hid hf
          clear hf
          by_cases h2 : k < l.length
          · obtain ⟨d, hd⟩ : ∃ d, l[k]? = some d := ⟨_, List.getElem?_eq_getElem h2⟩
            have t2 : decide (k < l.length) = true := by simpa using h2
            obtain ⟨gx, ox, d1, e1, hgx, l1, k1⟩ := CaIn.here (LIn.keep0 HX.out HFK.out) (by omega)
            simp only [Value.slice.injEq] at e1
            obtain ⟨rfl, _, rfl⟩ := e1
            obtain ⟨gl, ol, d2, e2, hgl, l2, k2⟩ := CaIn.here (LIn.keep0 HL2.out HFK.out) (by omega)
            simp only [Value.slice.injEq] at e2
            obtain ⟨rfl, _, rfl⟩ := e2
            have X1 := k1 j c HC.out
            have X2 := k1 k d hd
            have Y1 := k2 j c HC.out
            have Y2 := k2 k d hd
            have a0 : ∀ n : After [] wr, n.now.cell? ⟨gx, ox + j * 5, none⟩ = some (.int .i64 c.kind) := fun n => n.cell X1.c0 (by simp)
            have a1 : ∀ n : After [] wr, n.now.cell? ⟨gx, ox + j * 5 + 1, none⟩ = some (.string c.key) := fun n => n.cell X1.c1 (by simp)
            have a2 : ∀ n : After [] wr, n.now.cell? ⟨gx, ox + j * 5 + 2, none⟩ = some (.bool c.ok) := fun n => n.cell X1.c2 (by simp)
            have a3 : ∀ n : After [] wr, n.now.cell? ⟨gx, ox + j * 5 + 3, none⟩ = some (.int .i64 c.inv) := fun n => n.cell X1.c3 (by simp)
            have a4 : ∀ n : After [] wr, n.now.cell? ⟨gx, ox + j * 5 + 4, none⟩ = some (.int .i64 c.ret) := fun n => n.cell X1.c4 (by simp)
            have b0 : ∀ n : After [] wr, n.now.cell? ⟨gx, ox + k * 5, none⟩ = some (.int .i64 d.kind) := fun n => n.cell X2.c0 (by simp)
            have b1 : ∀ n : After [] wr, n.now.cell? ⟨gx, ox + k * 5 + 1, none⟩ = some (.string d.key) := fun n => n.cell X2.c1 (by simp)
            have b2 : ∀ n : After [] wr, n.now.cell? ⟨gx, ox + k * 5 + 2, none⟩ = some (.bool d.ok) := fun n => n.cell X2.c2 (by simp)
            have b3 : ∀ n : After [] wr, n.now.cell? ⟨gx, ox + k * 5 + 3, none⟩ = some (.int .i64 d.inv) := fun n => n.cell X2.c3 (by simp)
            have b4 : ∀ n : After [] wr, n.now.cell? ⟨gx, ox + k * 5 + 4, none⟩ = some (.int .i64 d.ret) := fun n => n.cell X2.c4 (by simp)
            have y0 : ∀ n : After [] wr, n.now.cell? ⟨gl, ol + j * 5, none⟩ = some (.int .i64 c.kind) := fun n => n.cell Y1.c0 (by simp)
            have y1 : ∀ n : After [] wr, n.now.cell? ⟨gl, ol + j * 5 + 1, none⟩ = some (.string c.key) := fun n => n.cell Y1.c1 (by simp)
            have y2 : ∀ n : After [] wr, n.now.cell? ⟨gl, ol + j * 5 + 2, none⟩ = some (.bool c.ok) := fun n => n.cell Y1.c2 (by simp)
            have y3 : ∀ n : After [] wr, n.now.cell? ⟨gl, ol + j * 5 + 3, none⟩ = some (.int .i64 c.inv) := fun n => n.cell Y1.c3 (by simp)
            have y4 : ∀ n : After [] wr, n.now.cell? ⟨gl, ol + j * 5 + 4, none⟩ = some (.int .i64 c.ret) := fun n => n.cell Y1.c4 (by simp)
            have z0 : ∀ n : After [] wr, n.now.cell? ⟨gl, ol + k * 5, none⟩ = some (.int .i64 d.kind) := fun n => n.cell Y2.c0 (by simp)
            have z1 : ∀ n : After [] wr, n.now.cell? ⟨gl, ol + k * 5 + 1, none⟩ = some (.string d.key) := fun n => n.cell Y2.c1 (by simp)
            have z2 : ∀ n : After [] wr, n.now.cell? ⟨gl, ol + k * 5 + 2, none⟩ = some (.bool d.ok) := fun n => n.cell Y2.c2 (by simp)
            have z3 : ∀ n : After [] wr, n.now.cell? ⟨gl, ol + k * 5 + 3, none⟩ = some (.int .i64 d.inv) := fun n => n.cell Y2.c3 (by simp)
            have z4 : ∀ n : After [] wr, n.now.cell? ⟨gl, ol + k * 5 + 4, none⟩ = some (.int .i64 d.ret) := fun n => n.cell Y2.c4 (by simp)
            obtain ⟨AH, hAH⟩ : ∃ AH, AH = ahead c d := ⟨_, rfl⟩
            have HA1 : Hid (∀ W, Calls Try.prog 11 #[c.agg, d.agg] W fun e w' => e = .returned (.bool AH) ∧ Fr [] W w') := Lib.hid fun W => by rw [hAH]; exact or_ahead c d W
            have HA2 : Hid (∀ W, Calls Try.prog 12 #[c.agg, d.agg] W fun e w' => e = .returned (.bool AH) ∧ Fr [] W w') := Lib.hid fun W => by rw [hAH]; exact rr_ahead c d W
            clear hd k1 k2 X1 X2 Y1 Y2 hAH
            go_upto_region 11 with fail
            refine wp_region_after [] (by kernel_rfl) (by kernel_rfl) ?_
            repeat (go_big_quiet_step (first | (go_at_call 11; exact After.quiet (HA1.out _)) | (go_at_call 12; exact After.quiet (HA2.out _))))
            refine wpQuiet_nil ?_
            rintro _ ⟨nq, rfl⟩
            have HFN := Lib.hid (Fr.trans (T := []) HFO.out nq.fr (by simp))
            clear a0 a1 a2 a3 a4 b0 b1 b2 b3 b4 y0 y1 y2 y3 y4 z0 z1 z2 z3 z4
            go_wp2_with fail
            go_roundw
            case rel => exact ⟨k + 1, by go_num, by omega, HFN.out⟩
            case measure => simp [intOf]; omega
          · have t2 : decide (k < l.length) = false := by simpa using h2
            go_wp2_with fail
            go_roundw
            case rel => exact ⟨j + 1, by go_num, by omega, HFK.out⟩
            case measure => simp [intOf]; omega
      · have t1 : decide (j < l.length) = false := by simpa using h
        have HFW := Lib.hid (Fr.trans (T := []) HF2.out HFJ.out (by simp))
        obtain ⟨R, hR⟩ : ∃ R, R = fitsB first l := ⟨_, rfl⟩
        have HR1 : Hid (∀ W, Fr [] wr W → Calls Try.prog 13 #[.slice fs first.length fc, .slice s3 l.length c3] W fun e w' => e = .returned (.bool R) ∧ Fr [] W w') := Lib.hid fun W hW => by rw [hR]; exact or_fits _ _ first l W (LIn.keep0 HF.out (Fr.trans (T := []) HFW.out hW (by simp))) (LIn.keep0 HX.out (Fr.trans (T := []) HFJ.out hW (by simp)))
        have HR2 : Hid (∀ W, Fr [] wr W → Calls Try.prog 14 #[.slice fs first.length fc, .slice ls l.length lc] W fun e w' => e = .returned (.bool R) ∧ Fr [] W w') := Lib.hid fun W hW => by rw [hR]; exact rr_fits _ _ first l W (LIn.keep0 HF.out (Fr.trans (T := []) HFW.out hW (by simp))) (LIn.keep0 HL.out (Fr.trans (T := []) HFW.out hW (by simp))) (by have := HB.out; omega)
        clear hR
        go_wp2_with (first | (go_at_call 13; refine (HR1.out _ (Fr.refl _ _)).mono ?_; rintro e w3 ⟨rfl, hf⟩; have HF3 := Lib.hid hf; clear hf) | (go_at_call 14; refine (HR2.out _ HF3.out).mono ?_; rintro e w4 ⟨rfl, hf⟩; have HF4 := Lib.hid (Fr.trans (T := []) HF3.out hf (by simp)); clear hf))
        go_ret
        refine ⟨?_, (Fr.trans (T := []) HFW.out HF4.out (by simp)).below (Nat.le_refl _) (by simp)⟩
        first | rfl | (cases R <;> rfl)
  · go_wp2_with fail
    go_ret
    exact ⟨rfl, HF1.out.below (Nat.le_refl _) (by simp)⟩

set_option maxRecDepth 100000 in
theorem contract (H : Type) (enc : TypeId × Value → H) (W : World) (base : Nat) (args : Array Value) (ds gs : List (DataW H)) (before : List MemPlace)
    (hval0 : ∀ (j : Nat) t v, Try.f3.params[j]? = some t → args[j]? = some v → Value.okWide Try.prog W .any base t v)
    (hW : DataW.Whole enc Try.prog Try.f3.params.toList Rows.orderTellsSpec.vars false W args.toList ds gs before) :
    Calls Try.prog 3 args W fun e W' => ∃ v, e = .returned v ∧ Rows.orderTellsSpec.post enc Try.prog Try.f3 false true false false W args v W' := by
  have hval : ∀ (j : Nat) t v, Try.f3.params[j]? = some t → args[j]? = some v → Value.okWide Try.prog W .any base t v := hval0
  have hW' := hW
  obtain ⟨p, q, hA0, hV, rfl, hfz, hnd⟩ := hW
  have hA : DataW.TrodAll enc Try.prog W 0 (fun _ => true) true Try.f3.params.toList args.toList ds p := hA0
  rw [Try.params3] at hA hval
  obtain ⟨v0, vs0, d0, ds0, p0, q0, hargs, rfl, rfl, h0, r0⟩ := trodAll_cons hA
  obtain ⟨v1, vs1, d1, ds1, p1, q1, rfl, rfl, rfl, h1, r1⟩ := trodAll_cons r0
  obtain ⟨rfl, rfl, rfl⟩ := trodAll_nil r1
  obtain rfl : args = #[v0, v1] := by cases args; simp_all
  obtain ⟨rfl, rfl⟩ := trodVars_none hV
  have k0 := h0
  have lt0 : ∀ x ∈ p0, x.block < W.heap.size := by obtain ⟨m, hm⟩ := k0; exact DataW.trod_lt m _ _ _ hm
  have k1 := h1
  have lt1 : ∀ x ∈ p1, x.block < W.heap.size := by obtain ⟨m, hm⟩ := k1; exact DataW.trod_lt m _ _ _ hm
  obtain ⟨first, hfirst⟩ := open_strs (hval 0 22 v0 rfl rfl) h0
  obtain ⟨l, hl⟩ := open_cas (hval 1 23 v1 rfl rfl) h1
  clear hA0 hval0 hval
  refine (walk v0 v1 first l W hfirst hl).mono fun e W' ⟨he, bel⟩ => ?_
  subst he
  exact ⟨_, rfl, _, _, _, [], _, [], hW', trodAll_mk1 (shut_bool Try.underlying4 _), (trodAll_cons_mk (Below.trod laid_prog (by kernel_rfl) (of_decide_eq_true (by kernel_rfl)) k0 bel lt0) (trodAll_cons_mk (Below.trod laid_prog (by kernel_rfl) (of_decide_eq_true (by kernel_rfl)) k1 bel lt1) trodAll_mk0)), rfl, bel.frame _, fun h => by cases h⟩

set_option maxRecDepth 100000 in
theorem lifted (os : Os) (started : os.Started) (H : Type) (enc : TypeId × Value → H) :
    ReturnsInHanded {} Try.checked os 3 .any (Rows.orderTellsSpec.pre6 enc Try.prog Try.f3 Rows.orderTellsRow.domain false) (Rows.orderTellsSpec.post enc Try.prog Try.f3 false true false false) := by
  refine returnsInHanded_of_change (C := Try.checked) own_prog started (by kernel_rfl) Try.func3
    (ChangeSpec.witness6 (enc := enc) (C := Try.checked) false ⟨#[], #[.slice none 0 0, .slice none 0 0], []⟩ 8 (by kernel_rfl) (by kernel_rfl) (by kernel_rfl) (by kernel_rfl)) ?_
  intro W base args ds gs before hval hW _ _
  exact contract H enc W base args ds gs before hval hW

theorem proved : Rows.OrderTellsSaid :=
  OpenClaim.holds_of_wide 3 Try.f3 rfl rfl rfl rfl rfl rfl rfl ⟨rfl, rfl, rfl, rfl, rfl⟩ rfl rfl rfl rfl rfl (by kernel_rfl) Try.func3 (by kernel_rfl)
    (of_decide_eq_true (by kernel_rfl)) (by unfold Func.isWrapper; first | (rw [if_pos (by decide +kernel)]; kernel_rfl) | (rw [if_neg (by decide +kernel)]; exact ⟨rfl, rfl⟩))
    (fun os started H enc _ => lifted os started H enc)

end Go.Proofs.Ytbbhekmhffhpfaa.lawOrderTells
