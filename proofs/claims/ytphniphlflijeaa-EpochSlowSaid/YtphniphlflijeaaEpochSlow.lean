/- As long as a thread is inside the epoch goes on once at most: for every two lists of deeds and every byte. No condition. -/
import Derived.Test.YtphniphlflijeaaEpochHist
namespace Go.Proofs.Ytphniphlflijeaa.lawEpochSlow
open Go.ChangeShapes Go.WideShapes Go.ChangeAt Go.RowKit Go.Deep
set_option linter.unusedVariables false
set_option linter.unusedSimpArgs false

theorem enter_ep (A : PA) (t : Int) : (A.enter t).ep = A.ep := by
  unfold PA.enter
  repeat' split
  all_goals rfl
theorem again {A : PA} {q : Nat} (hq : q < A.th.length) : Keeps ((A.exit q).enter q) q ((A.exit q).enter q).ep := by
  have h := Keeps.reentered hq
  have e : ((A.exit q).enter q).ep = A.ep := by rw [enter_ep, (exit_out hq).2.2]
  rw [e]; exact h

set_option maxRecDepth 100000 in
set_option maxHeartbeats 4000000 in
theorem walk (a0 : Option Addr) (len0 cap0 : Nat) (a1 : Option Addr) (len1 cap1 : Nat) (t : Int) (w : World) (w0 : EDeeds w a0 len0 cap0) (w1 : EDeeds w a1 len1 cap1) (wt : (Lit.int .u8 t).wf = true) :
    Calls Try.prog 7 #[.slice a0 len0 cap0, .slice a1 len1 cap1, .int .u8 t] w fun e w' => e = .returned (.bool true) ∧ Below w.heap.size w w' := by
  have HD0 := Lib.hid w0
  have HD1 := Lib.hid w1
  have hm : len1 ≤ 9223372036854775807 := by have := w1.1; have := w1.2.1; unfold maxLen at this; omega
  obtain ⟨n0, n1⟩ := ewf_byte wt
  obtain ⟨q, hq⟩ : ∃ q : Nat, (q : Int) = t % 4 := ⟨(t % 4).toNat, by omega⟩
  have hq4 : q < 4 := by omega
  have HQ := Lib.hid hq
  clear w0 w1 wt hq
  go_enter Try.func7, Try.ntmps7
  go_wp2_with (first | (go_at_call 9; refine (epoch_awake _).mono ?_; rintro e w1 ⟨rfl, h1⟩; have HA := Lib.hid h1; clear h1) | (go_at_call 15; refine (eran_any _ _ _ _ (HD0.out.keep HA.out)).mono ?_; rintro e w2 ⟨p, S, A, rfl, h2, hA2, hX2⟩; refine go_stop ?_))
  have h2 : Own w p S A w2 := ⟨h2.1, HA.out.trans h2.2.1 (by simp), fun k hk => Nat.le_trans HA.out.size (h2.2.2 k hk)⟩
  have hfour := hX2.four
  have HB : Hid (∃ B, B = (A.exit (t % 4)).enter (t % 4) ∧ OkA B 80 ∧ Keeps B q B.ep) := Lib.hid ⟨_, rfl, (hA2.exit _).enter _, by rw [← HQ.out]; exact again (by omega)⟩
  have HE := Lib.hid (own_exit h2 hA2 (t % 4))
  have HO2 := Lib.hid (hA2.exit (t % 4))
  clear h2 hA2 hX2 hfour
  unfold Stop
  go_wp2_with (go_at_call 19; refine HE.out.mono ?_; rintro e w3 ⟨rfl, S3, h3⟩; refine go_stop ?_)
  unfold Stop
  go_wp2_with (go_at_call 17; refine (own_enter h3 HO2.out (t % 4)).mono ?_; rintro e w4 ⟨rfl, S4, h4⟩; refine go_stop ?_)
  obtain ⟨B0, hB0, hOB, hKB⟩ := HB.out
  rw [← hB0] at h4
  have hwas0 := hOB.ep0
  have hwas1 := hOB.ep1
  have H4 := Lib.hid h4
  have HOB := Lib.hid hOB
  have HKB := Lib.hid hKB
  clear h3 h4 hB0 hOB hKB
  unfold Stop
  go_wp2_with (go_at_call 13; refine (own_epoch H4.out).mono ?_; rintro e w5 ⟨rfl, rfl⟩; refine go_stop ?_)
  unfold Stop
  obtain ⟨was, hwas⟩ : ∃ was, was = B0.ep := ⟨_, rfl⟩
  rw [← hwas] at hwas0 hwas1
  have HWAS := Lib.hid hwas
  go_wp2_with fail
  rw [← hwas]
  clear hwas
  go_loopw [11] (fun i wr => ∃ (j : Nat) (S : List Nat) (B : PA), i = .int .i64 j ∧ j ≤ len1 ∧ j ≤ 80 ∧ Own w p S B wr ∧ OkA B (80 + (j : Int)) ∧ Keeps B q was) (fun i _ => 80 - (intOf i).toNat)
  case atStart => exact ⟨0, _, _, rfl, Nat.zero_le _, Nat.zero_le _, H4.out, HOB.out.mono (by omega), by rw [HWAS.out]; exact HKB.out⟩
  case round =>
    obtain ⟨j, S, B, rfl, hj, hj80, hO, hA, hK⟩ := hrel
    by_cases hgo : j < len1 ∧ j < 80
    · obtain ⟨hlt, hlt80⟩ := hgo
      have ht1 : decide (j < len1) = true := by simpa using hlt
      have ht2 : decide ((j : Int) < 80) = true := by simp; omega
      obtain ⟨b, off, rfl, hbw, hcells⟩ := HD1.out.2.2 (by omega)
      obtain ⟨kind, u, x, d0, d1, d2⟩ := hcells j hlt
      have c0 := hO.2.1.cell d0 (by simp)
      have c1 := hO.2.1.cell d1 (by simp)
      have c2 := hO.2.1.cell d2 (by simp)
      have HD0' := Lib.hid d0
      have HD1' := Lib.hid d1
      have HD2' := Lib.hid d2
      clear d0 d1 d2 hcells
      by_cases hn : kind ≠ 2 ∨ u ≠ q
      · have HKD := Lib.hid (hK.deed kind u x hn)
        have HAD := Lib.hid (hA.deed kind u x)
        have HOW := Lib.hid hO
        have HOK := Lib.hid hA
        clear hO hA hK
        by_cases hk : kind = 2
        · subst hk
          have k2 : (u == t % 4) = false := by have := HQ.out; simp; omega
          clear hn
          go_wp2_with fail
          go_region_held3 (fun w' => w'.cell? ⟨b, off + j * 3, none⟩ = some (.int .i64 2) ∧ w'.cell? ⟨b, off + j * 3 + 1, none⟩ = some (.int .i64 u) ∧ w'.cell? ⟨b, off + j * 3 + 2, none⟩ = some (.int .u64 x)) (go_keep)
            (first
              | (go_at_call 11; refine (rnew_any _ 4 (by decide)).mono ?_; rintro e w5 ⟨V, rfl, hr5, hf5⟩
                 have hfw : Fr [] wr w5 := ((Fr.refl [] wr).drew).trans hf5 (by simp)
                 have g0 := hfw.cell c0 (by simp)
                 have g1 := hfw.cell c1 (by simp)
                 have g2 := hfw.cell c2 (by simp)
                 have HR5 := Lib.hid hr5
                 have HF5 := Lib.hid hfw
                 clear hr5 hf5 hfw)
              | (go_at_call 12; refine (own_do HOW.out HOK.out (by omega) HR5.out HF5.out 2 u x).mono ?_; rintro e w6 ⟨V6, b6, S6, rfl, h6, hf6⟩
                 have y0 := h6.2.1.cell HD0'.out (by simp)
                 have y1 := h6.2.1.cell HD1'.out (by simp)
                 have y2 := h6.2.1.cell HD2'.out (by simp)
                 have H6 := Lib.hid h6
                 clear h6 hf6))
          go_wp2
          go_roundw
          case rel => exact ⟨j + 1, S6, _, by go_num, by omega, by omega, H6.out, HAD.out.mono (by omega), HKD.out⟩
          case measure => simp [intOf]; omega
        · have k1 : (kind == 2) = false := by simpa using hk
          clear hn hk
          go_wp2_with fail
          go_region_held3 (fun w' => w'.cell? ⟨b, off + j * 3, none⟩ = some (.int .i64 kind) ∧ w'.cell? ⟨b, off + j * 3 + 1, none⟩ = some (.int .i64 u) ∧ w'.cell? ⟨b, off + j * 3 + 2, none⟩ = some (.int .u64 x)) (go_keep)
            (first
              | (go_at_call 11; refine (rnew_any _ 4 (by decide)).mono ?_; rintro e w5 ⟨V, rfl, hr5, hf5⟩
                 have hfw : Fr [] wr w5 := ((Fr.refl [] wr).drew).trans hf5 (by simp)
                 have g0 := hfw.cell c0 (by simp)
                 have g1 := hfw.cell c1 (by simp)
                 have g2 := hfw.cell c2 (by simp)
                 have HR5 := Lib.hid hr5
                 have HF5 := Lib.hid hfw
                 clear hr5 hf5 hfw)
              | (go_at_call 12; refine (own_do HOW.out HOK.out (by omega) HR5.out HF5.out kind u x).mono ?_; rintro e w6 ⟨V6, b6, S6, rfl, h6, hf6⟩
                 have y0 := h6.2.1.cell HD0'.out (by simp)
                 have y1 := h6.2.1.cell HD1'.out (by simp)
                 have y2 := h6.2.1.cell HD2'.out (by simp)
                 have H6 := Lib.hid h6
                 clear h6 hf6))
          go_wp2
          go_roundw
          case rel => exact ⟨j + 1, S6, _, by go_num, by omega, by omega, H6.out, HAD.out.mono (by omega), HKD.out⟩
          case measure => simp [intOf]; omega
      · obtain rfl : kind = 2 := by omega
        obtain rfl : u = t % 4 := by have := HQ.out; omega
        have HOW := Lib.hid hO
        have HOK := Lib.hid hA
        have HKK := Lib.hid hK
        clear hO hA hK hn
        go_wp2
        go_roundw
        case rel => exact ⟨j + 1, S, B, by go_num, by omega, by omega, HOW.out, HOK.out.mono (by omega), HKK.out⟩
        case measure => simp [intOf]; omega
    · have HF := Lib.hid hO
      have HK := Lib.hid hK
      clear hO hA hK
      by_cases hlt : j < len1
      all_goals first
        | have ht1 : decide (j < len1) = true := by simpa using hlt
          have ht2 : decide ((j : Int) < 80) = false := by simp; omega
        | have ht1 : decide (j < len1) = false := by simpa using hlt
      all_goals
        have t3 : decide (was ≤ B.ep) = true := by have := HK.out.2.1; simpa using this
        have t4 : decide (B.ep ≤ was + 1) = true := by have := HK.out.2.2; simpa using this
        have hwr : IntKind.i64.wrap (was + 1) = was + 1 := IntWalk.i64_in _ ⟨by omega, by omega⟩
        go_wp2_with (go_at_call 13; refine (own_epoch HF.out).mono ?_; rintro e w7 ⟨rfl, rfl⟩)
        go_ret
        exact ⟨rfl, HF.out.2.1.below (Nat.le_refl _) (by simp)⟩

set_option maxRecDepth 100000 in
theorem contract (H : Type) (enc : TypeId × Value → H) (W : World) (base : Nat) (args : Array Value) (ds gs : List (DataW H)) (before : List MemPlace)
    (hval0 : ∀ (j : Nat) t v, Try.f7.params[j]? = some t → args[j]? = some v → Value.okWide Try.prog W .any base t v)
    (hW : DataW.Whole enc Try.prog Try.f7.params.toList Rows.epochSlowSpec.vars false W args.toList ds gs before) :
    Calls Try.prog 7 args W fun e W' => ∃ v, e = .returned v ∧ Rows.epochSlowSpec.post enc Try.prog Try.f7 false true false false W args v W' := by
  have hval : ∀ (j : Nat) t v, Try.f7.params[j]? = some t → args[j]? = some v → Value.okWide Try.prog W .any base t v := hval0
  have hW' := hW
  obtain ⟨p, q, hA0, hV, rfl, hfz, hnd⟩ := hW
  have hA : DataW.TrodAll enc Try.prog W 0 (fun _ => true) true Try.f7.params.toList args.toList ds p := hA0
  rw [Try.params7] at hA hval
  obtain ⟨v0, vs0, d0, ds0, p0, q0, hargs, rfl, rfl, h0, r0⟩ := trodAll_cons hA
  obtain ⟨v1, vs1, d1, ds1, p1, q1, rfl, rfl, rfl, h1, r1⟩ := trodAll_cons r0
  obtain ⟨v2, vs2, d2, ds2, p2, q2, rfl, rfl, rfl, h2, r2⟩ := trodAll_cons r1
  obtain ⟨rfl, rfl, rfl⟩ := trodAll_nil r2
  obtain rfl : args = #[v0, v1, v2] := by cases args; simp_all
  obtain ⟨rfl, rfl⟩ := trodVars_none hV
  have k0 := h0
  have lt0 : ∀ x ∈ p0, x.block < W.heap.size := by obtain ⟨m, hm⟩ := k0; exact DataW.trod_lt m _ _ _ hm
  have k1 := h1
  have lt1 : ∀ x ∈ p1, x.block < W.heap.size := by obtain ⟨m, hm⟩ := k1; exact DataW.trod_lt m _ _ _ hm
  have k2 := h2
  have lt2 : ∀ x ∈ p2, x.block < W.heap.size := by obtain ⟨m, hm⟩ := k2; exact DataW.trod_lt m _ _ _ hm
  obtain ⟨a0, len0, cap0, rfl, w0⟩ := open_edeeds (hval 0 22 v0 rfl rfl) h0
  obtain ⟨a1, len1, cap1, rfl, w1⟩ := open_edeeds (hval 1 22 v1 rfl rfl) h1
  obtain ⟨t, rfl, _, _, wt⟩ := open_int Try.underlying5 (hval 2 5 v2 rfl rfl) h2
  clear hA0 hval0 hval
  refine (walk a0 len0 cap0 a1 len1 cap1 t W w0 w1 wt).mono fun e W' ⟨he, bel⟩ => ?_
  subst he
  exact ⟨_, rfl, _, _, _, [], _, [], hW', trodAll_mk1 (shut_bool Try.underlying4 _), (trodAll_cons_mk (Below.trod laid_prog (by kernel_rfl) (of_decide_eq_true (by kernel_rfl)) k0 bel lt0) (trodAll_cons_mk (Below.trod laid_prog (by kernel_rfl) (of_decide_eq_true (by kernel_rfl)) k1 bel lt1) (trodAll_cons_mk (Below.trod laid_prog (by kernel_rfl) (of_decide_eq_true (by kernel_rfl)) k2 bel lt2) trodAll_mk0))), rfl, bel.frame _, fun h => by cases h⟩

set_option maxRecDepth 100000 in
theorem lifted (os : Os) (started : os.Started) (H : Type) (enc : TypeId × Value → H) :
    ReturnsInHanded {} Try.checked os 7 .any (Rows.epochSlowSpec.pre6 enc Try.prog Try.f7 Rows.epochSlowRow.domain false) (Rows.epochSlowSpec.post enc Try.prog Try.f7 false true false false) := by
  refine returnsInHanded_of_change (C := Try.checked) own_prog started (by kernel_rfl) Try.func7
    (ChangeSpec.witness6 (enc := enc) (C := Try.checked) false ⟨#[], #[.slice none 0 0, .slice none 0 0, .int .u8 0], []⟩ 8 (by kernel_rfl) (by kernel_rfl) (by kernel_rfl) (by kernel_rfl)) ?_
  intro W base args ds gs before hval hW _ _
  exact contract H enc W base args ds gs before hval hW

theorem proved : Rows.EpochSlowSaid :=
  OpenClaim.holds_of_wide 7 Try.f7 rfl rfl rfl rfl rfl rfl rfl ⟨rfl, rfl, rfl, rfl, rfl⟩ rfl rfl rfl rfl rfl (by kernel_rfl) Try.func7 (by kernel_rfl)
    (of_decide_eq_true (by kernel_rfl)) (by unfold Func.isWrapper; first | (rw [if_pos (by decide +kernel)]; kernel_rfl) | (rw [if_neg (by decide +kernel)]; exact ⟨rfl, rfl⟩))
    (fun os started H enc _ => lifted os started H enc)

end Go.Proofs.Ytphniphlflijeaa.lawEpochSlow
