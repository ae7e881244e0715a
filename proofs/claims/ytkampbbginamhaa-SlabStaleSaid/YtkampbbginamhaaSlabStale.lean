/- What was freed cannot be asked, or freed again, also when its place has another record: for every list of deeds and every two bytes. No condition. -/
import Derived.Test.YtkampbbginamhaaSlabStale0
namespace Go.Proofs.Ytkampbbginamhaa.lawSlabStale
open Go.ChangeShapes Go.WideShapes Go.ChangeAt Go.RowKit Go.Deep
set_option linter.unusedVariables false
set_option linter.unusedSimpArgs false

set_option maxRecDepth 100000 in
set_option maxHeartbeats 2000000 in
theorem walk (a0 : Option Addr) (len0 cap0 : Nat) (n mo : Int) (w : World) (w0 : SDeeds w a0 len0 cap0) (wn : (Lit.int .u8 n).wf = true) (wmo : (Lit.int .u8 mo).wf = true) :
    Calls Try.prog 6 #[.slice a0 len0 cap0, .int .u8 n, .int .u8 mo] w fun e w' => e = .returned (.bool true) ∧ Below w.heap.size w w' := by
  have HD := Lib.hid w0
  obtain ⟨n0, n1⟩ := wf_byte wn
  obtain ⟨m0, m1⟩ := wf_byte wmo
  clear w0 wn wmo
  go_enter Try.func6, Try.ntmps6
  go_wp2_with (first | (go_at_call 9; refine (slab_awake _).mono ?_; rintro e w1 ⟨rfl, h1⟩; have HA := Lib.hid h1; clear h1) | (go_at_call 16; refine (sran_any _ _ _ _ (HD.out.keep HA.out)).mono ?_; rintro e w2 ⟨V, FT, s, L, rfl, hb, hi, hf, hft⟩; refine go_stop ?_))
  obtain ⟨p, pm, mv, rv, mx, k, gx, tx, fx, lv, rfl, hown, hl, hlv, hlt, ⟨ma, mn, mc, rfl⟩, ⟨ga, gn, gc, rfl⟩, ⟨ta, tn, tc, rfl⟩, ⟨fa, fn, fc, rfl⟩, la, lc, rfl⟩ := hb.own
  have hO := hown.box (.cells #[.pointer (some ⟨p, 0, none⟩), .pointer (some ⟨pm, 0, none⟩), .slice ma mn mc, .int .i64 k, .int .i64 s.first, .int .i64 s.words, .slice ga gn gc, .slice ta tn tc, .slice fa fn fc, .slice la L.length lc] 34)
  have hF3 := (HA.out.trans hf (by simp)).alloc (.cells #[.pointer (some ⟨p, 0, none⟩), .pointer (some ⟨pm, 0, none⟩), .slice ma mn mc, .int .i64 k, .int .i64 s.first, .int .i64 s.words, .slice ga gn gc, .slice ta tn tc, .slice fa fn fc, .slice la L.length lc] 34)
  have hws := HA.out.size
  have HO := Lib.hid hO
  have HF3 := Lib.hid hF3
  have HX3 := Lib.hid (new_block w2 (.cells #[.pointer (some ⟨p, 0, none⟩), .pointer (some ⟨pm, 0, none⟩), .slice ma mn mc, .int .i64 k, .int .i64 s.first, .int .i64 s.words, .slice ga gn gc, .slice ta tn tc, .slice fa fn fc, .slice la L.length lc] 34))
  have HXF := Lib.hid (fun h => by have := hlt _ h; omega : w2.heap.size ∉ FT)
  have HFT := Lib.hid (fun k hk => by have := hft k hk; omega : ∀ k ∈ FT, w.heap.size ≤ k)
  have HI := Lib.hid hi
  have HL := Lib.hid (hl.alloc (.cells #[.pointer (some ⟨p, 0, none⟩), .pointer (some ⟨pm, 0, none⟩), .slice ma mn mc, .int .i64 k, .int .i64 s.first, .int .i64 s.words, .slice ga gn gc, .slice ta tn tc, .slice fa fn fc, .slice la L.length lc] 34))
  obtain ⟨r, hr⟩ : ∃ r, r = toldV L n := ⟨_, rfl⟩
  have HRW := Lib.hid (show IsW r by rw [hr]; exact told_isW hi.inv.word n)
  have HST := Lib.hid (show Stale r (s.free r) by rw [hr]; exact Stale.free (hi.hist.told_gen (by have := hi.inv.nrec; omega) n n0))
  have HTOLD := Lib.hid (told_any _ n (hl.alloc (.cells #[.pointer (some ⟨p, 0, none⟩), .pointer (some ⟨pm, 0, none⟩), .slice ma mn mc, .int .i64 k, .int .i64 s.first, .int .i64 s.words, .slice ga gn gc, .slice ta tn tc, .slice fa fn fc, .slice la L.length lc] 34)) n0 n1 (by have := hi.inv.len; omega))
  rw [← hr] at HTOLD
  clear hr hown hl hlv hlt hb hi hf hft hO hF3
  unfold Stop
  go_wp2_with (first | (go_at_call 20; refine HTOLD.out.mono ?_; rintro e w9 ⟨rfl, rfl⟩) | (go_at_call 21; refine (own_free HO.out r HRW.out HI.out.inv.ok (by have := HI.out.inv.row; omega)).mono ?_; rintro e w4 ⟨rfl, h4⟩; refine go_stop ?_))
  have h4i := HI.out.inv.free r
  have hX4 := h4.fr.keep HX3.out HXF.out
  have HX4 := Lib.hid hX4
  have HO4 := Lib.hid h4
  have HI4 := Lib.hid h4i
  clear h4 h4i
  unfold Stop
  go_wp2_with fail
  go_loopw [10] (fun i wr => ∃ (j : Nat) (s' : SS) (L' : List Int), i = .int .i64 j ∧ (j : Int) ≤ mo % 6 ∧ Own (w2.alloc (.cells #[.pointer (some ⟨p, 0, none⟩), .pointer (some ⟨pm, 0, none⟩), .slice ma mn mc, .int .i64 k, .int .i64 s.first, .int .i64 s.words, .slice ga gn gc, .slice ta tn tc, .slice fa fn fc, .slice la L.length lc] 34)) FT wr p pm mv rv (180 + 3 * j) s' ∧ Stale r s' ∧ Inv 4 s' L' (61 + j) ∧ s'.words = 3) (fun i _ => 6 - (intOf i).toNat)
  case atStart => exact ⟨0, _, _, rfl, by omega, HO4.out, HST.out, HI4.out, (s.words_free r).1.trans HI.out.words⟩
  case round =>
    obtain ⟨j, s', L', rfl, hj, hO, hS, hI, hW⟩ := hrel
    have hX := hO.fr.keep HX3.out HXF.out
    obtain ⟨x0, x1, x2, x3, x4, x5, x6, x7, x8, x9, fx⟩ := cells10 hX
    by_cases hlt : (j : Int) < mo % 6
    · have ht : decide ((j : Int) < mo % 6) = true := by simpa using hlt
      have HOA := Lib.hid (own_alloc hO hI.ok (by omega) (by have := hI.row; omega) (by omega))
      have HIN := Lib.hid (hI.alloc (by omega) (by omega))
      have HSA := Lib.hid hS.alloc
      have HWA := Lib.hid (s'.words_alloc.1.trans hW)
      have HW := Lib.hid hW
      clear hO hS hI hW hX
      go_wp2_with (go_at_call 22; refine HOA.out.mono ?_; rintro e w5 ⟨rfl, h5⟩; rw [HW.out] at h5; have HO5 := Lib.hid h5; clear h5)
      go_roundw
      case rel => exact ⟨j + 1, _, _, by go_num, by omega, HO5.out.mono (by omega), HSA.out, HIN.out.mono (by omega), HWA.out⟩
      case measure => simp [intOf]; omega
    · have ht : decide ((j : Int) < mo % 6) = false := by simpa using hlt
      have HCE := Lib.hid (SS.cellE_no hS.no 0)
      have HOC := Lib.hid (own_cell hO r 0 HRW.out hI.ok)
      have HOF := Lib.hid (fun K => own_free (hO.drewN K) r HRW.out hI.ok (by have := hI.row; omega))
      clear hO hS hI hW hX
      go_wp2_with (first | (go_at_call 19; refine HOC.out.mono ?_; rintro e w5 ⟨rfl, k5, rfl⟩; rw [HCE.out.1]) | (go_at_call 21; refine (HOF.out _).mono ?_; rintro e w6 ⟨rfl, h6⟩; have H6 := Lib.hid h6; rw [HCE.out.2]; clear h6))
      go_ret
      exact ⟨rfl, (HF3.out.trans H6.out.fr (fun k hk => Or.inr (HFT.out k hk))).below (Nat.le_refl _) (by simp)⟩

set_option maxRecDepth 100000 in
theorem contract (H : Type) (enc : TypeId × Value → H) (W : World) (base : Nat) (args : Array Value) (ds gs : List (DataW H)) (before : List MemPlace)
    (hval0 : ∀ (j : Nat) t v, Try.f6.params[j]? = some t → args[j]? = some v → Value.okWide Try.prog W .any base t v)
    (hW : DataW.Whole enc Try.prog Try.f6.params.toList Rows.slabStaleSpec.vars false W args.toList ds gs before) :
    Calls Try.prog 6 args W fun e W' => ∃ v, e = .returned v ∧ Rows.slabStaleSpec.post enc Try.prog Try.f6 false true false false W args v W' := by
  have hval : ∀ (j : Nat) t v, Try.f6.params[j]? = some t → args[j]? = some v → Value.okWide Try.prog W .any base t v := hval0
  have hW' := hW
  obtain ⟨p, q, hA0, hV, rfl, hfz, hnd⟩ := hW
  have hA : DataW.TrodAll enc Try.prog W 0 (fun _ => true) true Try.f6.params.toList args.toList ds p := hA0
  rw [Try.params6] at hA hval
  obtain ⟨v0, vs0, d0, ds0, p0, q0, hargs, rfl, rfl, h0, r0⟩ := trodAll_cons hA
  obtain ⟨v1, vs1, d1, ds1, p1, q1, rfl, rfl, rfl, h1, r1⟩ := trodAll_cons r0
  obtain ⟨v2, vs2, d2, ds2, p2, q2, rfl, rfl, rfl, h2, r2⟩ := trodAll_cons r1
  obtain ⟨rfl, rfl, rfl⟩ := trodAll_nil r2
  obtain rfl : args = #[v0, v1, v2] := by cases args; simp_all
  obtain ⟨rfl, rfl⟩ := trodVars_none hV
  have k0 := h0
  have lt0 : ∀ x ∈ p0, x.block < W.heap.size := by obtain ⟨m, hm⟩ := k0; exact DataW.trod_lt m _ _ _ hm
  have k1 := h1
  have lt1 : ∀ x ∈ p1, x.block < W.heap.size := by obtain ⟨m, hm⟩ := k1; exact DataW.trod_lt m _ _ _ hm
  have k2 := h2
  have lt2 : ∀ x ∈ p2, x.block < W.heap.size := by obtain ⟨m, hm⟩ := k2; exact DataW.trod_lt m _ _ _ hm
  obtain ⟨a0, len0, cap0, rfl, w0⟩ := open_sdeeds (hval 0 22 v0 rfl rfl) h0
  obtain ⟨n, rfl, _, _, wn⟩ := open_int Try.underlying5 (hval 1 5 v1 rfl rfl) h1
  obtain ⟨mo, rfl, _, _, wmo⟩ := open_int Try.underlying5 (hval 2 5 v2 rfl rfl) h2
  clear hA0 hval0 hval
  refine (walk a0 len0 cap0 n mo W w0 wn wmo).mono fun e W' ⟨he, bel⟩ => ?_
  subst he
  exact ⟨_, rfl, _, _, _, [], _, [], hW', trodAll_mk1 (shut_bool Try.underlying4 _), (trodAll_cons_mk (Below.trod laid_prog (by kernel_rfl) (of_decide_eq_true (by kernel_rfl)) k0 bel lt0) (trodAll_cons_mk (Below.trod laid_prog (by kernel_rfl) (of_decide_eq_true (by kernel_rfl)) k1 bel lt1) (trodAll_cons_mk (Below.trod laid_prog (by kernel_rfl) (of_decide_eq_true (by kernel_rfl)) k2 bel lt2) trodAll_mk0))), rfl, bel.frame _, fun h => by cases h⟩

set_option maxRecDepth 100000 in
theorem lifted (os : Os) (started : os.Started) (H : Type) (enc : TypeId × Value → H) :
    ReturnsInHanded {} Try.checked os 6 .any (Rows.slabStaleSpec.pre6 enc Try.prog Try.f6 Rows.slabStaleRow.domain false) (Rows.slabStaleSpec.post enc Try.prog Try.f6 false true false false) := by
  refine returnsInHanded_of_change (C := Try.checked) own_prog started (by kernel_rfl) Try.func6
    (ChangeSpec.witness6 (enc := enc) (C := Try.checked) false ⟨#[], #[.slice none 0 0, .int .u8 0, .int .u8 0], []⟩ 8 (by kernel_rfl) (by kernel_rfl) (by kernel_rfl) (by kernel_rfl)) ?_
  intro W base args ds gs before hval hW _ _
  exact contract H enc W base args ds gs before hval hW

theorem proved : Rows.SlabStaleSaid :=
  OpenClaim.holds_of_wide 6 Try.f6 rfl rfl rfl rfl rfl rfl rfl ⟨rfl, rfl, rfl, rfl, rfl⟩ rfl rfl rfl rfl rfl (by kernel_rfl) Try.func6 (by kernel_rfl)
    (of_decide_eq_true (by kernel_rfl)) (by unfold Func.isWrapper; first | (rw [if_pos (by decide +kernel)]; kernel_rfl) | (rw [if_neg (by decide +kernel)]; exact ⟨rfl, rfl⟩))
    (fun os started H enc _ => lifted os started H enc)

end Go.Proofs.Ytkampbbginamhaa.lawSlabStale
