/- Of two who CAS a cell from what it has, to something else, the first one alone is told true, and the cell has what the first one gave it: for every list of deeds, every byte and every two words. No condition. -/
import Derived.Test.YtpnoibgcnjbokaaMemLaw
namespace Go.Proofs.Ytpnoibgcnjbokaa.lawMemOnce
open Go.ChangeShapes Go.WideShapes Go.ChangeAt Go.RowKit Go.Deep
set_option linter.unusedVariables false
set_option linter.unusedSimpArgs false

set_option maxRecDepth 100000 in
theorem walk (a0 : Option Addr) (len0 cap0 : Nat) (a y0 y1 : Int) (w : World) (w0 : IsDeeds w a0 len0 cap0) (wa : (Lit.int .u8 a).wf = true) :
    Calls Try.prog 4 #[.slice a0 len0 cap0, .int .u8 a, .agg #[.int .u64 y0, .int .u64 y1]] w fun e w' => e = .returned (.bool true) ∧ Below w.heap.size w w' := by
  obtain ⟨ha0, ha1⟩ := wf_u8 wa
  have HD := Lib.hid w0
  obtain ⟨k, hk⟩ : ∃ k, k = a % 8 := ⟨_, rfl⟩
  have HK := Lib.hid hk
  have hk0 : 0 ≤ k := by omega
  have hk8 : k < 8 := by omega
  clear w0 wa hk
  go_enter Try.func4, Try.ntmps4
  go_wp2_with (first | (go_at_call 7; refine (awake_any _).mono ?_; rintro e w1 ⟨rfl, h1⟩; have HB := Lib.hid (h1.keep (new_block w _) (by simp)); have HA := Lib.hid (((Fr.refl [] w).alloc _).trans h1 (by simp)); clear h1) | (go_at_call 8; refine (ran_any _ _ _ _ (HD.out.keep HA.out)).mono ?_; rintro e w2 ⟨p, mv, m, rfl, g1, g2, g3, g4, g5, g6⟩; refine go_stop ?_))
  have hp1 : w.heap.size < w1.heap.size := lt_of_block HB.out
  have HF := Lib.hid (show ∀ g ∈ MemAt.foot p mv, w.heap.size < g from fun g hg => by have := g3 g hg; omega)
  have hhas : m.has k = true := MS.has_of hk0 (by omega)
  obtain ⟨s0, hs0⟩ : ∃ s0, s0 = m.at k := ⟨_, rfl⟩
  have HH := Lib.hid hhas
  have HS := Lib.hid hs0
  have HLD := Lib.hid (load_any w2 p k g1 (by omega) (by omega))
  have HF2 := Lib.hid (HA.out.trans g2 (by simp))
  have HB2 := Lib.hid (g2.keep HB.out (by simp))
  have HN := Lib.hid (And.intro g4 (And.intro g5 g6))
  have HFB := Lib.hid (show w.heap.size ∉ MemAt.foot p mv from fun h => by have := HF.out _ h; omega)
  clear g1 g2 g3 g4 g5 g6 hhas hs0
  unfold Stop
  rw [← HK.out]
  go_wp2_with (go_at_call 9; refine HLD.out.mono ?_; rintro e w3 ⟨rfl, h1, h2⟩; rw [MS.err_of HH.out, ← HS.out]; refine go_stop ?_)
  have h2' := h2.mono (T := MemAt.foot p mv) (fun g hg => Or.inl (MemAt.p_in p mv g hg))
  have HF3 := Lib.hid (HF2.out.trans h2' (fun g hg => Or.inr (Nat.le_of_lt (HF.out g hg))))
  have HB3 := Lib.hid (h2'.keep HB2.out HFB.out)
  have H1 := Lib.hid h1
  have c0 := cell_block HB3.out 0
  have c1 := cell_block HB3.out 1
  simp at c0 c1
  have HM1 := Lib.hid (show (m.ask k).at k = s0 ∧ (m.ask k).has k = true from ⟨(m.ask_at k k).1.trans HS.out.symm, (m.ask_at k k).2.trans HH.out⟩)
  have HN1 := Lib.hid (show (m.ask k).c.length ≤ 5000 ∧ (m.ask k).n ≤ 101 from ⟨by rw [m.ask_len]; exact HN.out.2.1, by have := m.ask_n k; have := HN.out; omega⟩)
  clear h1 h2 h2'
  unfold Stop
  by_cases hy : y0 = s0
  · have hb : (y0 == s0) = true := by simp [hy]
    clear hy
    go_wp2
    go_ret
    exact ⟨rfl, HF3.out.below (Nat.le_refl _) (by simp)⟩
  · have hb : (y0 == s0) = false := by simpa using hy
    have HY := Lib.hid hy
    have hc1 := (m.ask k).cas_yes k s0 y0 HM1.out.2 HM1.out.1
    have HC1 := Lib.hid hc1
    have hc2 := ((m.ask k).cas k s0 y0).cas_no k s0 y1 hc1.2.2 (by rw [hc1.2.1]; exact hy)
    rw [hc1.2.1] at hc2
    have HC2 := Lib.hid hc2
    have HN2 := Lib.hid (show ((m.ask k).cas k s0 y0).c.length ≤ 5000 ∧ ((m.ask k).cas k s0 y0).n ≤ 102 from ⟨by rw [((m.ask k).cas_len k s0 y0).1]; exact HN1.out.1, by have := ((m.ask k).cas_len k s0 y0).2; have := HN1.out; omega⟩)
    have HN3 := Lib.hid (show (((m.ask k).cas k s0 y0).cas k s0 y1).c.length ≤ 5000 ∧ (((m.ask k).cas k s0 y0).cas k s0 y1).n ≤ 103 from ⟨by rw [(((m.ask k).cas k s0 y0).cas_len k s0 y1).1]; exact HN2.out.1, by have := (((m.ask k).cas k s0 y0).cas_len k s0 y1).2; have := HN2.out; omega⟩)
    clear hc1 hc2 hy
    go_wp2_with (go_at_call 11; refine (cas_any _ p k s0 y0 H1.out (by have := HN1.out; omega) (by have := HN1.out; omega)).mono ?_; rintro e w4 ⟨rfl, h1, h2⟩; rw [HC1.out.1, HM1.out.1]; refine go_stop ?_)
    have HF4 := Lib.hid (HF3.out.trans h2 (fun g hg => Or.inr (Nat.le_of_lt (HF.out g hg))))
    have HB4 := Lib.hid (h2.keep HB3.out HFB.out)
    have H2 := Lib.hid h1
    have c0' := cell_block HB4.out 0
    have c1' := cell_block HB4.out 1
    simp at c0' c1'
    clear h1 h2
    unfold Stop
    go_wp2_with (go_at_call 11; refine (cas_any _ p k s0 y1 H2.out (by have := HN2.out; omega) (by have := HN2.out; omega)).mono ?_; rintro e w5 ⟨rfl, h1, h2⟩; rw [HC2.out.1, HC1.out.2.1]; refine go_stop ?_)
    have HF5 := Lib.hid (HF4.out.trans h2 (fun g hg => Or.inr (Nat.le_of_lt (HF.out g hg))))
    have HB5 := Lib.hid (h2.keep HB4.out HFB.out)
    have H3 := Lib.hid h1
    have c0'' := cell_block HB5.out 0
    simp at c0''
    clear h1 h2
    unfold Stop
    go_wp2_with (go_at_call 9; refine (load_any _ p k H3.out (by have := HN3.out; omega) (by have := HN3.out; omega)).mono ?_; rintro e w6 ⟨rfl, h1, h2⟩; rw [MS.err_of HC2.out.2.2, HC2.out.2.1]; refine go_stop ?_)
    have h2' := h2.mono (T := MemAt.foot p mv) (fun g hg => Or.inl (MemAt.p_in p mv g hg))
    have HF6 := Lib.hid (HF5.out.trans h2' (fun g hg => Or.inr (Nat.le_of_lt (HF.out g hg))))
    have hb6 := h2'.keep HB5.out HFB.out
    have d0 := cell_block hb6 0
    simp at d0
    clear h1 h2 h2' hb6
    have hz0 : (s0 == s0) = true := by simp
    have hz1 : (y0 == y0) = true := by simp
    unfold Stop
    go_wp2
    go_ret
    exact ⟨rfl, HF6.out.below (Nat.le_refl _) (by simp)⟩

set_option maxRecDepth 100000 in
theorem contract (H : Type) (enc : TypeId × Value → H) (W : World) (base : Nat) (args : Array Value) (ds gs : List (DataW H)) (before : List MemPlace)
    (hval0 : ∀ (j : Nat) t v, Try.f4.params[j]? = some t → args[j]? = some v → Value.okWide Try.prog W .any base t v)
    (hW : DataW.Whole enc Try.prog Try.f4.params.toList Rows.memOnceSpec.vars false W args.toList ds gs before) :
    Calls Try.prog 4 args W fun e W' => ∃ v, e = .returned v ∧ Rows.memOnceSpec.post enc Try.prog Try.f4 false true false false W args v W' := by
  have hval : ∀ (j : Nat) t v, Try.f4.params[j]? = some t → args[j]? = some v → Value.okWide Try.prog W .any base t v := hval0
  have hW' := hW
  obtain ⟨p, q, hA0, hV, rfl, hfz, hnd⟩ := hW
  have hA : DataW.TrodAll enc Try.prog W 0 (fun _ => true) true Try.f4.params.toList args.toList ds p := hA0
  rw [Try.params4] at hA hval
  obtain ⟨v0, vs0, d0, ds0, p0, q0, hargs, rfl, rfl, h0, r0⟩ := trodAll_cons hA
  obtain ⟨v1, vs1, d1, ds1, p1, q1, rfl, rfl, rfl, h1, r1⟩ := trodAll_cons r0
  obtain ⟨v2, vs2, d2, ds2, p2, q2, rfl, rfl, rfl, h2, r2⟩ := trodAll_cons r1
  obtain ⟨rfl, rfl, rfl⟩ := trodAll_nil r2
  obtain rfl : args = #[v0, v1, v2] := by cases args; simp_all
  obtain ⟨rfl, rfl⟩ := trodVars_none hV
  have k0 := h0
  have lt0 : ∀ x ∈ p0, x.block < W.heap.size := by obtain ⟨m, hm⟩ := k0; exact DataW.trod_lt m _ _ _ hm
  have k1 := h1
  have lt1 : ∀ x ∈ p1, x.block < W.heap.size := by obtain ⟨m, hm⟩ := k1; exact DataW.trod_lt m _ _ _ hm
  have k2 := h2
  have lt2 : ∀ x ∈ p2, x.block < W.heap.size := by obtain ⟨m, hm⟩ := k2; exact DataW.trod_lt m _ _ _ hm
  obtain ⟨a0, len0, cap0, rfl, w0⟩ := open_deeds (hval 0 22 v0 rfl rfl) h0
  obtain ⟨a, rfl, _, _, wa⟩ := open_int Try.underlying5 (hval 1 5 v1 rfl rfl) h1
  obtain ⟨y0, y1, rfl⟩ := open_pair (hval 2 38 v2 rfl rfl) h2
  clear hA0 hval0 hval
  refine (walk a0 len0 cap0 a y0 y1 W w0 wa).mono fun e W' ⟨he, bel⟩ => ?_
  subst he
  exact ⟨_, rfl, _, _, _, [], _, [], hW', trodAll_mk1 (shut_bool Try.underlying4 _), (trodAll_cons_mk (Below.trod laid_prog (by kernel_rfl) (of_decide_eq_true (by kernel_rfl)) k0 bel lt0) (trodAll_cons_mk (Below.trod laid_prog (by kernel_rfl) (of_decide_eq_true (by kernel_rfl)) k1 bel lt1) (trodAll_cons_mk (Below.trod laid_prog (by kernel_rfl) (of_decide_eq_true (by kernel_rfl)) k2 bel lt2) trodAll_mk0))), rfl, bel.frame _, fun h => by cases h⟩

set_option maxRecDepth 100000 in
theorem lifted (os : Os) (started : os.Started) (H : Type) (enc : TypeId × Value → H) :
    ReturnsInHanded {} Try.checked os 4 .any (Rows.memOnceSpec.pre6 enc Try.prog Try.f4 Rows.memOnceRow.domain false) (Rows.memOnceSpec.post enc Try.prog Try.f4 false true false false) := by
  refine returnsInHanded_of_change (C := Try.checked) own_prog started (by kernel_rfl) Try.func4
    (ChangeSpec.witness6 (enc := enc) (C := Try.checked) false ⟨#[], #[.slice none 0 0, .int .u8 0, .agg #[.int .u64 0, .int .u64 0]], []⟩ 8 (by kernel_rfl) (by kernel_rfl) (by kernel_rfl) (by kernel_rfl)) ?_
  intro W base args ds gs before hval hW _ _
  exact contract H enc W base args ds gs before hval hW

theorem proved : Rows.MemOnceSaid :=
  OpenClaim.holds_of_wide 4 Try.f4 rfl rfl rfl rfl rfl rfl rfl ⟨rfl, rfl, rfl, rfl, rfl⟩ rfl rfl rfl rfl rfl (by kernel_rfl) Try.func4 (by kernel_rfl)
    (of_decide_eq_true (by kernel_rfl)) (by unfold Func.isWrapper; first | (rw [if_pos (by decide +kernel)]; kernel_rfl) | (rw [if_neg (by decide +kernel)]; exact ⟨rfl, rfl⟩))
    (fun os started H enc _ => lifted os started H enc)

end Go.Proofs.Ytpnoibgcnjbokaa.lawMemOnce
