/- Added one by one, a cell has all of it, modulo 2^64, and each call is told what was ahead: for every list of words and every byte. No condition. -/
import Derived.Test.YtpnoibgcnjbokaaMemLaw
namespace Go.Proofs.Ytpnoibgcnjbokaa.lawMemAdds
open Go.ChangeShapes Go.WideShapes Go.ChangeAt Go.RowKit Go.Deep
set_option linter.unusedVariables false
set_option linter.unusedSimpArgs false

set_option maxRecDepth 100000 in
theorem walk (a0 : Option Addr) (len0 cap0 : Nat) (a : Int) (w : World) (w0 : IsWords w a0 len0 cap0) (wa : (Lit.int .u8 a).wf = true) :
    Calls Try.prog 6 #[.slice a0 len0 cap0, .int .u8 a] w fun e w' => e = .returned (.bool true) ∧ Below w.heap.size w w' := by
  obtain ⟨ha0, ha1⟩ := wf_u8 wa
  have HD := Lib.hid w0
  have hm : len0 ≤ 9223372036854775807 := by have := w0.1; have := w0.2.1; unfold maxLen at this; omega
  obtain ⟨k, hk⟩ : ∃ k, k = a % 8 := ⟨_, rfl⟩
  have HK := Lib.hid hk
  have hk0 : 0 ≤ k := by omega
  have hk8 : k < 8 := by omega
  clear w0 wa hk
  go_enter Try.func6, Try.ntmps6
  go_wp2_with (first | (go_at_call 7; refine (awake_any _).mono ?_; rintro e w1 ⟨rfl, h1⟩; have HA := Lib.hid h1; clear h1) | (go_at_call 15; refine (new_any _ 8).mono ?_; intro e w2 h1; unfold MadeMem at h1; rw [if_pos (by omega)] at h1; obtain ⟨p, v, rfl, h1, h2, h3, h4⟩ := h1; refine go_stop ?_))
  have H1 := Lib.hid h1
  have H2 := Lib.hid h2
  have hf : ∀ g ∈ MemAt.foot p v, w.heap.size ≤ g := by
    have := HA.out.size
    intro g hg
    simp only [MemAt.foot, List.mem_cons, Option.mem_toList] at hg
    rcases hg with rfl | hg
    · omega
    · have := h4 g hg; omega
  have HF := Lib.hid hf
  clear h1 h2 h3 h4 hf
  unfold Stop
  go_wp2_with fail
  rw [← HK.out]
  have hk' : (MS.mk (List.replicate 8 0) 0).has k = true := MS.has_of hk0 (by simpa using hk8)
  have hst : MemAt w2 p v (MS.mk (List.replicate 8 0) 0) ∧ (MS.mk (List.replicate 8 0) 0).at k = 0 := ⟨H1.out, by
    rw [MS.at, hk', if_pos rfl]
    obtain ⟨k, rfl⟩ := Int.eq_ofNat_of_zero_le hk0
    have : k < 8 := by omega
    exact (by decide : ∀ k, k < 8 → (List.replicate 8 (0 : Int)).getD k 0 = 0) k this⟩
  have HST := Lib.hid hst
  clear hst hk'
  go_loopw [8, 9] (fun s i wr => ∃ (j : Nat) (z : Int) (m : MS), s = .int .u64 z ∧ i = .int .i64 j ∧ j ≤ len0 ∧ j ≤ 60 ∧ MemAt wr p v m ∧ m.c.length = 8 ∧ m.at k = z ∧ m.n ≤ j ∧ Fr [] w wr) (fun _ i _ => 60 - (intOf i).toNat)
  case atStart => exact ⟨0, 0, _, rfl, rfl, Nat.zero_le _, Nat.zero_le _, HST.out.1, by simp, HST.out.2, Nat.le_refl _, HA.out.trans H2.out (by simp)⟩
  case round =>
    obtain ⟨j, z, m, rfl, rfl, hj, hj60, hmem, hlen, hat, hn, hfr⟩ := hrel
    have hhas : m.has k = true := MS.has_of hk0 (by omega)
    by_cases hgo : j < len0 ∧ j < 60
    · obtain ⟨hlt, hlt60⟩ := hgo
      have ht1 : decide (j < len0) = true := by simpa using hlt
      have ht2 : decide ((j : Int) < 60) = true := by simp; omega
      obtain ⟨b, off, rfl, hb, hc⟩ := HD.out.2.2 (by omega)
      obtain ⟨x, hx⟩ := hc j hlt
      have cx := hfr.cell hx (by simp)
      have HX := Lib.hid hx
      have HADD := Lib.hid (add_any wr p k x hmem (by omega) (by omega))
      have hz : (z != z) = false := by simp
      have HM := Lib.hid (And.intro hmem (And.intro hlen (And.intro hat (And.intro hn hfr))))
      have HH := Lib.hid hhas
      clear hc hx hmem hlen hat hn hfr hhas hb
      go_wp2_with (go_at_call 16; refine HADD.out.mono ?_; rintro e w3 ⟨rfl, g1, g2⟩; rw [HM.out.2.2.1, MS.err_of HH.out] at *; have G1 := Lib.hid g1; have G2 := Lib.hid g2; have cx' := g2.cell cx (fun h => by have := HF.out _ h; have := World.block_lt_of_cell? w _ HX.out; omega); clear g1 g2)
      go_roundw
      case rel =>
        have h1 := MS.put_at m k (IntKind.u64.wrap (z + x)) HH.out
        refine ⟨j + 1, _, _, rfl, by go_num, by omega, by omega, G1.out, by rw [MS.put_len]; exact HM.out.2.1, h1.1, by have := m.put_n k (IntKind.u64.wrap (z + x)); have := HM.out.2.2.2.1; omega, HM.out.2.2.2.2.trans G2.out (fun g hg => Or.inr (HF.out g hg))⟩
      case measure => simp [intOf]; omega
    · have HLD := Lib.hid (load_any wr p k hmem (by omega) (by omega))
      have hz : (z == z) = true := by simp
      have HM := Lib.hid (And.intro hat hfr)
      have HH := Lib.hid hhas
      clear hmem hlen hat hn hfr hhas
      have hend : ∀ w4, Fr [p] wr w4 → Below w.heap.size w w4 := fun w4 h => (HM.out.2.trans h (fun g hg => Or.inr (HF.out g (MemAt.p_in p v g hg)))).below (Nat.le_refl _) (by simp)
      have HE := Lib.hid hend
      clear hend
      by_cases hlt : j < len0
      all_goals first
        | have ht1 : decide (j < len0) = true := by simpa using hlt
          have ht2 : decide ((j : Int) < 60) = false := by simp; omega
        | have ht1 : decide (j < len0) = false := by simpa using hlt
      all_goals
        go_wp2_with (go_at_call 9; refine HLD.out.mono ?_; rintro e w4 ⟨rfl, _, g2⟩; rw [HM.out.1, MS.err_of HH.out] at *; have G2 := Lib.hid g2; clear g2)
        go_ret
        exact ⟨rfl, HE.out _ G2.out⟩

set_option maxRecDepth 100000 in
theorem contract (H : Type) (enc : TypeId × Value → H) (W : World) (base : Nat) (args : Array Value) (ds gs : List (DataW H)) (before : List MemPlace)
    (hval0 : ∀ (j : Nat) t v, Try.f6.params[j]? = some t → args[j]? = some v → Value.okWide Try.prog W .any base t v)
    (hW : DataW.Whole enc Try.prog Try.f6.params.toList Rows.memAddsSpec.vars false W args.toList ds gs before) :
    Calls Try.prog 6 args W fun e W' => ∃ v, e = .returned v ∧ Rows.memAddsSpec.post enc Try.prog Try.f6 false true false false W args v W' := by
  have hval : ∀ (j : Nat) t v, Try.f6.params[j]? = some t → args[j]? = some v → Value.okWide Try.prog W .any base t v := hval0
  have hW' := hW
  obtain ⟨p, q, hA0, hV, rfl, hfz, hnd⟩ := hW
  have hA : DataW.TrodAll enc Try.prog W 0 (fun _ => true) true Try.f6.params.toList args.toList ds p := hA0
  rw [Try.params6] at hA hval
  obtain ⟨v0, vs0, d0, ds0, p0, q0, hargs, rfl, rfl, h0, r0⟩ := trodAll_cons hA
  obtain ⟨v1, vs1, d1, ds1, p1, q1, rfl, rfl, rfl, h1, r1⟩ := trodAll_cons r0
  obtain ⟨rfl, rfl, rfl⟩ := trodAll_nil r1
  obtain rfl : args = #[v0, v1] := by cases args; simp_all
  obtain ⟨rfl, rfl⟩ := trodVars_none hV
  have k0 := h0
  have lt0 : ∀ x ∈ p0, x.block < W.heap.size := by obtain ⟨m, hm⟩ := k0; exact DataW.trod_lt m _ _ _ hm
  have k1 := h1
  have lt1 : ∀ x ∈ p1, x.block < W.heap.size := by obtain ⟨m, hm⟩ := k1; exact DataW.trod_lt m _ _ _ hm
  obtain ⟨a0, len0, cap0, rfl, w0⟩ := open_words (hval 0 32 v0 rfl rfl) h0
  obtain ⟨a, rfl, _, _, wa⟩ := open_int Try.underlying5 (hval 1 5 v1 rfl rfl) h1
  clear hA0 hval0 hval
  refine (walk a0 len0 cap0 a W w0 wa).mono fun e W' ⟨he, bel⟩ => ?_
  subst he
  exact ⟨_, rfl, _, _, _, [], _, [], hW', trodAll_mk1 (shut_bool Try.underlying4 _), (trodAll_cons_mk (Below.trod laid_prog (by kernel_rfl) (of_decide_eq_true (by kernel_rfl)) k0 bel lt0) (trodAll_cons_mk (Below.trod laid_prog (by kernel_rfl) (of_decide_eq_true (by kernel_rfl)) k1 bel lt1) trodAll_mk0)), rfl, bel.frame _, fun h => by cases h⟩

set_option maxRecDepth 100000 in
theorem lifted (os : Os) (started : os.Started) (H : Type) (enc : TypeId × Value → H) :
    ReturnsInHanded {} Try.checked os 6 .any (Rows.memAddsSpec.pre6 enc Try.prog Try.f6 Rows.memAddsRow.domain false) (Rows.memAddsSpec.post enc Try.prog Try.f6 false true false false) := by
  refine returnsInHanded_of_change (C := Try.checked) own_prog started (by kernel_rfl) Try.func6
    (ChangeSpec.witness6 (enc := enc) (C := Try.checked) false ⟨#[], #[.slice none 0 0, .int .u8 0], []⟩ 8 (by kernel_rfl) (by kernel_rfl) (by kernel_rfl) (by kernel_rfl)) ?_
  intro W base args ds gs before hval hW _ _
  exact contract H enc W base args ds gs before hval hW

theorem proved : Rows.MemAddsSaid :=
  OpenClaim.holds_of_wide 6 Try.f6 rfl rfl rfl rfl rfl rfl rfl ⟨rfl, rfl, rfl, rfl, rfl⟩ rfl rfl rfl rfl rfl (by kernel_rfl) Try.func6 (by kernel_rfl)
    (of_decide_eq_true (by kernel_rfl)) (by unfold Func.isWrapper; first | (rw [if_pos (by decide +kernel)]; kernel_rfl) | (rw [if_neg (by decide +kernel)]; exact ⟨rfl, rfl⟩))
    (fun os started H enc _ => lifted os started H enc)

end Go.Proofs.Ytpnoibgcnjbokaa.lawMemAdds
