/- A record that is taken has cells of 0, whatever stood there, and there are as many as were said, and no more: for every list of deeds. No condition. -/
import Derived.Test.YtkampbbginamhaaSlabStale0
namespace Go.Proofs.Ytkampbbginamhaa.lawSlabNew
open Go.ChangeShapes Go.WideShapes Go.ChangeAt Go.RowKit Go.Deep
set_option linter.unusedVariables false
set_option linter.unusedSimpArgs false

set_option maxRecDepth 100000 in
set_option maxHeartbeats 2000000 in
theorem walk (a0 : Option Addr) (len0 cap0 : Nat) (w : World) (w0 : SDeeds w a0 len0 cap0) :
    Calls Try.prog 7 #[.slice a0 len0 cap0] w fun e w' => e = .returned (.bool true) ∧ Below w.heap.size w w' := by
  have HD := Lib.hid w0
  clear w0
  go_enter Try.func7, Try.ntmps7
  go_wp2_with (first | (go_at_call 9; refine (slab_awake _).mono ?_; rintro e w1 ⟨rfl, h1⟩; have HA := Lib.hid h1; clear h1) | (go_at_call 16; refine (sran_any _ _ _ _ (HD.out.keep HA.out)).mono ?_; rintro e w2 ⟨V, FT, s, L, rfl, hb, hi, hf, hft⟩; refine go_stop ?_))
  obtain ⟨p, pm, mv, rv, mx, k, gx, tx, fx, lv, rfl, hown, hl, hlv, hlt, ⟨ma, mn, mc, rfl⟩, ⟨ga, gn, gc, rfl⟩, ⟨ta, tn, tc, rfl⟩, ⟨fa, fn, fc, rfl⟩, la, lc, rfl⟩ := hb.own
  have hO := hown.box (.cells #[.pointer (some ⟨p, 0, none⟩), .pointer (some ⟨pm, 0, none⟩), .slice ma mn mc, .int .i64 k, .int .i64 s.first, .int .i64 s.words, .slice ga gn gc, .slice ta tn tc, .slice fa fn fc, .slice la L.length lc] 34)
  have hF3 := (HA.out.trans hf (by simp)).alloc (.cells #[.pointer (some ⟨p, 0, none⟩), .pointer (some ⟨pm, 0, none⟩), .slice ma mn mc, .int .i64 k, .int .i64 s.first, .int .i64 s.words, .slice ga gn gc, .slice ta tn tc, .slice fa fn fc, .slice la L.length lc] 34)
  have hws := HA.out.size
  have HO := Lib.hid hO
  have HF3 := Lib.hid hF3
  have HX3 := Lib.hid (new_block w2 (.cells #[.pointer (some ⟨p, 0, none⟩), .pointer (some ⟨pm, 0, none⟩), .slice ma mn mc, .int .i64 k, .int .i64 s.first, .int .i64 s.words, .slice ga gn gc, .slice ta tn tc, .slice fa fn fc, .slice la L.length lc] 34))
  have HXF := Lib.hid (fun h => by have := hlt _ h; omega : w2.heap.size ∉ FT)
  have HFT := Lib.hid (fun k hk => by have := hft k hk; omega : ∀ k ∈ FT, w.heap.size ≤ k)
  have HI := Lib.hid hi
  have HL := Lib.hid (hl.alloc (.cells #[.pointer (some ⟨p, 0, none⟩), .pointer (some ⟨pm, 0, none⟩), .slice ma mn mc, .int .i64 k, .int .i64 s.first, .int .i64 s.words, .slice ga gn gc, .slice ta tn tc, .slice fa fn fc, .slice la L.length lc] 34))
  obtain ⟨R, hR⟩ : ∃ R, R = s.row.length := ⟨_, rfl⟩
  have hR64 : R ≤ 64 := by rw [hR]; have := hi.inv.row; omega
  have hlive := own_live hO (by have := hi.inv.nrec; omega) (by omega)
  rw [hi.inv.nrec, ← hR] at hlive
  replace hlive : Calls Try.prog 12 #[.pointer (some ⟨p, 0, none⟩)] (w2.alloc (.cells #[.pointer (some ⟨p, 0, none⟩), .pointer (some ⟨pm, 0, none⟩), .slice ma mn mc, .int .i64 k, .int .i64 s.first, .int .i64 s.words, .slice ga gn gc, .slice ta tn tc, .slice fa fn fc, .slice la L.length lc] 34)) fun e w' => e = .returned (.int .i64 (4 - (R : Int))) ∧ ∃ kd, w' = (w2.alloc (.cells #[.pointer (some ⟨p, 0, none⟩), .pointer (some ⟨pm, 0, none⟩), .slice ma mn mc, .int .i64 k, .int .i64 s.first, .int .i64 s.words, .slice ga gn gc, .slice ta tn tc, .slice fa fn fc, .slice la L.length lc] 34)).drewN kd := hlive
  have HLV := Lib.hid hlive
  have HR := Lib.hid hR
  have hwr : IntKind.i64.wrap (4 - (4 - (R : Int))) = R := by rw [show (4 : Int) - (4 - (R : Int)) = R by omega]; exact IntWalk.i64_in _ ⟨by omega, by omega⟩
  clear hR hown hl hlv hlt hb hi hf hft hO hF3 hlive
  unfold Stop
  go_wp2_with (go_at_call 12; refine HLV.out.mono ?_; rintro e w9 ⟨rfl, k9, rfl⟩)
  clear hwr
  go_loopw [6] (fun i wr => ∃ (j : Nat) (s' : SS) (L' : List Int), i = .int .i64 j ∧ j + s'.row.length = R ∧ Own (w2.alloc (.cells #[.pointer (some ⟨p, 0, none⟩), .pointer (some ⟨pm, 0, none⟩), .slice ma mn mc, .int .i64 k, .int .i64 s.first, .int .i64 s.words, .slice ga gn gc, .slice ta tn tc, .slice fa fn fc, .slice la L.length lc] 34)) FT wr p pm mv rv (180 + 6 * j) s' ∧ Inv 4 s' L' (60 + j) ∧ s'.words = 3 ∧ s'.c.length = 15) (fun i _ => R - (intOf i).toNat)
  case atStart => exact ⟨0, s, L, rfl, by have := HR.out; omega, HO.out.drewN _, HI.out.inv, HI.out.words, HI.out.len⟩
  case round =>
    obtain ⟨j, s', L', rfl, hj, hO, hI, hW, hC⟩ := hrel
    have hX := hO.fr.keep HX3.out HXF.out
    obtain ⟨x0, x1, x2, x3, x4, x5, x6, x7, x8, x9, fx⟩ := cells10 hX
    have hnr := hI.nrec
    have hal := own_alloc hO hI.ok (by omega) (by have := hI.row; omega) (by omega)
    rw [hW] at hal
    by_cases hlt : j < R
    · have ht : decide ((j : Int) < R) = true := by simpa using hlt
      obtain ⟨q, rest, hrow⟩ := (row_cases s'.row).resolve_left (fun h => by rw [h] at hj; simp at hj; omega)
      have hAE : s'.allocE = 0 := by rw [SS.allocE, hrow]
      have hfr := fun i (hi : i < 3) => SS.fresh hI.ok (by omega) hrow i (by omega)
      have hIN := hI.alloc (by omega) (by omega)
      have hrw : s'.alloc.row.length + (j + 1) = R := by rw [SS.alloc, hrow]; rw [hrow] at hj; simp at hj; show rest.length + (j + 1) = R; omega
      have hcl := s'.alloc_len.trans hC
      have hwd := s'.words_alloc.1.trans hW
      obtain ⟨s1, hs1⟩ : ∃ s1, s1 = s'.alloc := ⟨_, rfl⟩
      obtain ⟨r, hr⟩ : ∃ r, r = s'.allocV := ⟨_, rfl⟩
      have hrW : IsW r := by
        rw [hAE, if_pos rfl] at hIN
        exact hIN.word r (by rw [hr]; simp)
      rw [hAE, ← hs1, ← hr] at hal
      rw [← hs1, ← hr] at hfr
      rw [← hs1] at hIN hrw hcl hwd
      have HAL := Lib.hid hal
      have HFS := Lib.hid hfr
      have HIN := Lib.hid hIN
      have HRW := Lib.hid hrw
      have HCL := Lib.hid hcl
      have HWD := Lib.hid hwd
      have HIW := Lib.hid hrW
      clear hal hfr hIN hrw hcl hwd hrW hO hI hX hs1 hr hnr hW hC hAE hrow
      go_wp2_with (go_at_call 22; refine HAL.out.mono ?_; rintro e w5 ⟨rfl, h5⟩; have HO5 := Lib.hid h5; clear h5)
      clear x0 x1 x2 x3 x4 x5 x6 x7 x8 x9 fx
      go_loopw [9] (fun i wr => ∃ (kk : Nat), i = .int .i64 kk ∧ kk ≤ 3 ∧ Own (w2.alloc (.cells #[.pointer (some ⟨p, 0, none⟩), .pointer (some ⟨pm, 0, none⟩), .slice ma mn mc, .int .i64 k, .int .i64 s.first, .int .i64 s.words, .slice ga gn gc, .slice ta tn tc, .slice fa fn fc, .slice la L.length lc] 34)) FT wr p pm mv rv (180 + 6 * j + 3 + kk) s1) (fun i _ => 3 - (intOf i).toNat)
      case atStart => exact ⟨0, rfl, by omega, HO5.out⟩
      case round =>
        obtain ⟨kk, rfl, hk, hO⟩ := hrel
        have hX := hO.fr.keep HX3.out HXF.out
        obtain ⟨x0, x1, x2, x3, x4, x5, x6, x7, x8, x9, fx⟩ := cells10 hX
        by_cases hlt2 : kk < 3
        · have ht2 : decide ((kk : Int) < 3) = true := by simp; omega
          obtain ⟨f0, f1, f2, f3⟩ := HFS.out kk hlt2
          have HOC := own_cell hO r kk HIW.out HIN.out.ok
          rw [f0] at HOC
          have HLD := fun K => own_load (hO.drewN K) (s1.cellV r kk) f1 f2 (by have := HCL.out; omega) (by omega)
          rw [f3] at HLD
          have HOC := Lib.hid HOC
          have HLD := Lib.hid HLD
          clear f0 f1 f2 f3 hO hX
          go_wp2_with (first | (go_at_call 19; refine HOC.out.mono ?_; rintro e w6 ⟨rfl, k6, rfl⟩) | (go_at_call 14; refine (HLD.out _).mono ?_; rintro e w7 ⟨rfl, h7⟩; have HO7 := Lib.hid h7; clear h7))
          go_roundw
          case rel => exact ⟨kk + 1, by go_num, by omega, HO7.out⟩
          case measure => simp [intOf]; omega
        · have ht2 : decide ((kk : Int) < 3) = false := by simp; omega
          have HOK := Lib.hid hO
          clear hO hX
          go_wp2_with fail
          go_roundw
          case rel => exact ⟨j + 1, s1, _, by go_num, by have := HRW.out; omega, HOK.out.mono (by omega), HIN.out, HWD.out, HCL.out⟩
          case measure => simp [intOf]; omega
    · have ht : decide ((j : Int) < R) = false := by simpa using hlt
      have hrow : s'.row = [] := by apply List.eq_nil_of_length_eq_zero; omega
      have hAE : s'.allocE = 7 := by rw [SS.allocE, hrow]
      have hAL : s'.alloc = s' := by rw [SS.alloc, hrow]
      rw [hAE, hAL] at hal
      have hlive := fun W (h : Own (w2.alloc (.cells #[.pointer (some ⟨p, 0, none⟩), .pointer (some ⟨pm, 0, none⟩), .slice ma mn mc, .int .i64 k, .int .i64 s.first, .int .i64 s.words, .slice ga gn gc, .slice ta tn tc, .slice fa fn fc, .slice la L.length lc] 34)) FT W p pm mv rv (180 + 6 * j + 3) s') => own_live h (by omega) (by rw [hrow]; simp)
      rw [hnr, hrow] at hlive
      replace hlive : ∀ W, Own (w2.alloc (.cells #[.pointer (some ⟨p, 0, none⟩), .pointer (some ⟨pm, 0, none⟩), .slice ma mn mc, .int .i64 k, .int .i64 s.first, .int .i64 s.words, .slice ga gn gc, .slice ta tn tc, .slice fa fn fc, .slice la L.length lc] 34)) FT W p pm mv rv (180 + 6 * j + 3) s' → Calls Try.prog 12 #[.pointer (some ⟨p, 0, none⟩)] W fun e w' => e = .returned (.int .i64 4) ∧ ∃ k, w' = W.drewN k := hlive
      have HAL := Lib.hid hal
      have HLV2 := Lib.hid hlive
      clear hal hlive hO hI hX hnr hW hC hAE hAL hrow
      go_wp2_with (first | (go_at_call 22; refine HAL.out.mono ?_; rintro e w5 ⟨rfl, h5⟩; have hX5 := h5.fr.keep HX3.out HXF.out; obtain ⟨z0, z1, z2, z3, z4, z5, z6, z7, z8, z9, fz⟩ := cells10 hX5; have HO5 := Lib.hid h5; clear h5 hX5) | (go_at_call 12; refine (HLV2.out _ HO5.out).mono ?_; rintro e w6 ⟨rfl, k6, rfl⟩))
      go_ret
      exact ⟨rfl, ((HF3.out.trans HO5.out.fr (fun k hk => Or.inr (HFT.out k hk))).drewN _).below (Nat.le_refl _) (by simp)⟩

set_option maxRecDepth 100000 in
theorem contract (H : Type) (enc : TypeId × Value → H) (W : World) (base : Nat) (args : Array Value) (ds gs : List (DataW H)) (before : List MemPlace)
    (hval0 : ∀ (j : Nat) t v, Try.f7.params[j]? = some t → args[j]? = some v → Value.okWide Try.prog W .any base t v)
    (hW : DataW.Whole enc Try.prog Try.f7.params.toList Rows.slabNewSpec.vars false W args.toList ds gs before) :
    Calls Try.prog 7 args W fun e W' => ∃ v, e = .returned v ∧ Rows.slabNewSpec.post enc Try.prog Try.f7 false true false false W args v W' := by
  have hval : ∀ (j : Nat) t v, Try.f7.params[j]? = some t → args[j]? = some v → Value.okWide Try.prog W .any base t v := hval0
  have hW' := hW
  obtain ⟨p, q, hA0, hV, rfl, hfz, hnd⟩ := hW
  have hA : DataW.TrodAll enc Try.prog W 0 (fun _ => true) true Try.f7.params.toList args.toList ds p := hA0
  rw [Try.params7] at hA hval
  obtain ⟨v0, vs0, d0, ds0, p0, q0, hargs, rfl, rfl, h0, r0⟩ := trodAll_cons hA
  obtain ⟨rfl, rfl, rfl⟩ := trodAll_nil r0
  obtain rfl : args = #[v0] := by cases args; simp_all
  obtain ⟨rfl, rfl⟩ := trodVars_none hV
  have k0 := h0
  have lt0 : ∀ x ∈ p0, x.block < W.heap.size := by obtain ⟨m, hm⟩ := k0; exact DataW.trod_lt m _ _ _ hm
  obtain ⟨a0, len0, cap0, rfl, w0⟩ := open_sdeeds (hval 0 22 v0 rfl rfl) h0
  clear hA0 hval0 hval
  refine (walk a0 len0 cap0 W w0).mono fun e W' ⟨he, bel⟩ => ?_
  subst he
  exact ⟨_, rfl, _, _, _, [], _, [], hW', trodAll_mk1 (shut_bool Try.underlying4 _), (trodAll_cons_mk (Below.trod laid_prog (by kernel_rfl) (of_decide_eq_true (by kernel_rfl)) k0 bel lt0) trodAll_mk0), rfl, bel.frame _, fun h => by cases h⟩

set_option maxRecDepth 100000 in
theorem lifted (os : Os) (started : os.Started) (H : Type) (enc : TypeId × Value → H) :
    ReturnsInHanded {} Try.checked os 7 .any (Rows.slabNewSpec.pre6 enc Try.prog Try.f7 Rows.slabNewRow.domain false) (Rows.slabNewSpec.post enc Try.prog Try.f7 false true false false) := by
  refine returnsInHanded_of_change (C := Try.checked) own_prog started (by kernel_rfl) Try.func7
    (ChangeSpec.witness6 (enc := enc) (C := Try.checked) false ⟨#[], #[.slice none 0 0], []⟩ 8 (by kernel_rfl) (by kernel_rfl) (by kernel_rfl) (by kernel_rfl)) ?_
  intro W base args ds gs before hval hW _ _
  exact contract H enc W base args ds gs before hval hW

theorem proved : Rows.SlabNewSaid :=
  OpenClaim.holds_of_wide 7 Try.f7 rfl rfl rfl rfl rfl rfl rfl ⟨rfl, rfl, rfl, rfl, rfl⟩ rfl rfl rfl rfl rfl (by kernel_rfl) Try.func7 (by kernel_rfl)
    (of_decide_eq_true (by kernel_rfl)) (by unfold Func.isWrapper; first | (rw [if_pos (by decide +kernel)]; kernel_rfl) | (rw [if_neg (by decide +kernel)]; exact ⟨rfl, rfl⟩))
    (fun os started H enc _ => lifted os started H enc)

end Go.Proofs.Ytkampbbginamhaa.lawSlabNew
