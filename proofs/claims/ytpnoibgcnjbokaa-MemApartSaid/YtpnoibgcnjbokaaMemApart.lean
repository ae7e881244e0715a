/- What is done to one cell does not change another one: for every list of deeds, every deed and every byte. No condition. -/
import Derived.Test.YtpnoibgcnjbokaaMemLaw
namespace Go.Proofs.Ytpnoibgcnjbokaa.lawMemApart
open Go.ChangeShapes Go.WideShapes Go.ChangeAt Go.RowKit Go.Deep
set_option linter.unusedVariables false
set_option linter.unusedSimpArgs false

set_option maxRecDepth 100000 in
theorem walk (a0 : Option Addr) (len0 cap0 : Nat) (kind da old x a : Int) (w : World) (w0 : IsDeeds w a0 len0 cap0) (wa : (Lit.int .u8 a).wf = true) :
    Calls Try.prog 3 #[.slice a0 len0 cap0, .agg #[.int .i64 kind, .int .i64 da, .int .u64 old, .int .u64 x], .int .u8 a] w fun e w' => e = .returned (.bool true) ∧ Below w.heap.size w w' := by
  obtain ⟨ha0, ha1⟩ := wf_u8 wa
  have HD := Lib.hid w0
  obtain ⟨k, hk⟩ : ∃ k, k = a % 8 := ⟨_, rfl⟩
  have HK := Lib.hid hk
  have hk0 : 0 ≤ k := by omega
  have hk8 : k < 8 := by omega
  clear w0 wa
  by_cases hak : da = k
  · have hb : (da == a % 8) = true := by simp [hak, hk]
    clear hak hk
    go_enter Try.func3, Try.ntmps3
    go_wp2_with (go_at_call 7; refine (awake_any _).mono ?_; rintro e w1 ⟨rfl, h1⟩; have hB := h1.keep (new_block w _) (by simp); have c1 := cell_block hB 1; simp at c1; have HA := Lib.hid h1; clear h1 hB)
    go_ret
    exact ⟨rfl, (((Fr.refl [] w).alloc _).trans HA.out (by simp)).below (Nat.le_refl _) (by simp)⟩
  · have hb : (da == a % 8) = false := by simpa [← hk] using hak
    have HNE := Lib.hid hak
    clear hak hk
    go_enter Try.func3, Try.ntmps3
    go_wp2_with (first | (go_at_call 7; refine (awake_any _).mono ?_; rintro e w1 ⟨rfl, h1⟩; have hB := h1.keep (new_block w _) (by simp); have c1 := cell_block hB 1; simp at c1; have HB := Lib.hid hB; have HA := Lib.hid (((Fr.refl [] w).alloc _).trans h1 (by simp)); clear h1 hB) | (go_at_call 8; refine (ran_any _ _ _ _ (HD.out.keep HA.out)).mono ?_; rintro e w2 ⟨p, mv, m, rfl, g1, g2, g3, g4, g5, g6⟩; refine go_stop ?_))
    have hp1 : w.heap.size < w1.heap.size := lt_of_block HB.out
    have HF := Lib.hid (show ∀ g ∈ MemAt.foot p mv, w.heap.size < g from fun g hg => by have := g3 g hg; omega)
    have hhas : m.has k = true := MS.has_of hk0 (by omega)
    have HH := Lib.hid hhas
    have HLD := Lib.hid (load_any w2 p k g1 (by omega) (by omega))
    have HF2 := Lib.hid (HA.out.trans g2 (by simp))
    have HB2 := Lib.hid (g2.keep HB.out (by simp))
    have HN := Lib.hid (And.intro g4 (And.intro g5 g6))
    clear g1 g2 g3 g4 g5 g6 hhas c1
    unfold Stop
    rw [← HK.out]
    go_wp2_with (go_at_call 9; refine HLD.out.mono ?_; rintro e w3 ⟨rfl, h1, h2⟩; rw [MS.err_of HH.out]; refine go_stop ?_)
    have HF3 := Lib.hid (HF2.out.trans (h2.mono (T := MemAt.foot p mv) (fun g hg => Or.inl (MemAt.p_in p mv g hg))) (fun g hg => Or.inr (Nat.le_of_lt (HF.out g hg))))
    have HB3 := Lib.hid (h2.keep HB2.out (by intro h; have := HF.out w.heap.size (MemAt.p_in p mv _ h); omega))
    have H1 := Lib.hid h1
    clear h1 h2
    unfold Stop
    have hlt3 : ∀ g ∈ MemAt.foot p mv, g < w3.heap.size := H1.out.foot_lt
    have HDO : Hid (∀ W, Fr [] w3 W → Ref W (.slice (some ⟨w3.heap.size, 0, none⟩) 8 8) (List.replicate 8 0) → Calls Try.prog 10 #[.pointer (some ⟨p, 0, none⟩), .agg #[.slice (some ⟨w3.heap.size, 0, none⟩) 8 8, .int .i64 0], .agg #[.int .i64 kind, .int .i64 da, .int .u64 old, .int .u64 x]] W (DoPost W p mv (.slice (some ⟨w3.heap.size, 0, none⟩) 8 8) ((m.ask k).deed kind da old x) 8 0)) := by
      intro W hW hr
      have hboth : Both W p mv (.slice (some ⟨w3.heap.size, 0, none⟩) 8 8) (m.ask k) (List.replicate 8 0) := by
        refine ⟨H1.out.keep hW (by simp) (by simp), hr, ?_⟩
        intro g hg hm
        simp [Value.ownBlock] at hg
        have := hlt3 g hm; omega
      exact do_any W p kind da old x 0 hboth (by rw [MS.ask_len]; have := HN.out; omega) (by have := MS.ask_n m k; have := HN.out; omega) (by simp) (by omega) (by omega)
    have c0 := cell_block HB3.out 0
    have c1 := cell_block HB3.out 1
    have c2 := cell_block HB3.out 2
    have c3 := cell_block HB3.out 3
    simp at c0 c1 c2 c3
    have hBF : w.heap.size ∉ MemAt.foot p mv := fun h => by have := HF.out _ h; omega
    have HBF := Lib.hid hBF
    have hw3 : w.heap.size < w3.heap.size := lt_of_block HB3.out
    have hmk : ∀ w, (Instr.makeSlice 32 (.int .i64 8) (.int .i64 8)).run Try.prog w = .ok (.slice (some ⟨w.heap.size, 0, none⟩) 8 8) (w.alloc (.cells (zeros 8) 23)) := fun w => make_words w 8 (by decide)
    clear hlt3 hBF
    go_wp2_with fail
    go_region_held3 (fun w' => w'.cell? ⟨w.heap.size, 0, none⟩ = some (.int .i64 kind) ∧ w'.cell? ⟨w.heap.size, 1, none⟩ = some (.int .i64 da) ∧ w'.cell? ⟨w.heap.size, 2, none⟩ = some (.int .u64 old) ∧ w'.cell? ⟨w.heap.size, 3, none⟩ = some (.int .u64 x)) (go_keep)
      (first | (go_at_call 10; refine (HDO.out _ ((Fr.refl _ _).alloc _).drew (by exact own_zeros w3.drew 8 _ rfl (by decide))).mono ?_; rintro e w5 ⟨mv', v', k', b, cs', rfl, q1, q2, q3, q4, q5, q6⟩; have c0' := q4.cell (by exact (World.cell?_alloc_past _ _ _ hw3).trans c0) HBF.out; have c1' := q4.cell (by exact (World.cell?_alloc_past _ _ _ hw3).trans c1) HBF.out; have c2' := q4.cell (by exact (World.cell?_alloc_past _ _ _ hw3).trans c2) HBF.out; have c3' := q4.cell (by exact (World.cell?_alloc_past _ _ _ hw3).trans c3) HBF.out; have HQ1 := Lib.hid q1; have HF5 := Lib.hid ((HF3.out.trans (((Fr.refl [] w3).alloc _).drew) (by simp)).trans q4 (fun g hg => Or.inr (Nat.le_of_lt (HF.out g hg)))); clear q1 q2 q3 q4 q5 q6))
    have q1 := HQ1.out
    have hoth := (m.ask k).deed_other kind da old x k ((MS.ask_at m k k).2.trans HH.out) HNE.out
    have HOT := Lib.hid (And.intro (hoth.1.trans (MS.ask_at m k k).1) hoth.2)
    have hlen := (m.ask k).deed_len kind da old x
    have hlen1 := m.ask_len k
    have hlen2 := m.ask_n k
    have hnn := HN.out
    have HL2 := Lib.hid (load_any w5 p k q1.mem (by omega) (by omega))
    clear q1 hoth hlen hlen1 hlen2 hnn
    have hz : (m.at k == m.at k) = true := by simp
    go_wp2_with (go_at_call 9; refine HL2.out.mono ?_; rintro e w6 ⟨rfl, h1, h2⟩; rw [MS.err_of HOT.out.2, HOT.out.1]; have HL := Lib.hid h2; clear h1 h2)
    go_ret
    exact ⟨rfl, (HF5.out.trans HL.out (fun g hg => Or.inr (Nat.le_of_lt (HF.out g (MemAt.p_in p mv g hg))))).below (Nat.le_refl _) (by simp)⟩

set_option maxRecDepth 100000 in
theorem contract (H : Type) (enc : TypeId × Value → H) (W : World) (base : Nat) (args : Array Value) (ds gs : List (DataW H)) (before : List MemPlace)
    (hval0 : ∀ (j : Nat) t v, Try.f3.params[j]? = some t → args[j]? = some v → Value.okWide Try.prog W .any base t v)
    (hW : DataW.Whole enc Try.prog Try.f3.params.toList Rows.memApartSpec.vars false W args.toList ds gs before) :
    Calls Try.prog 3 args W fun e W' => ∃ v, e = .returned v ∧ Rows.memApartSpec.post enc Try.prog Try.f3 false true false false W args v W' := by
  have hval : ∀ (j : Nat) t v, Try.f3.params[j]? = some t → args[j]? = some v → Value.okWide Try.prog W .any base t v := hval0
  have hW' := hW
  obtain ⟨p, q, hA0, hV, rfl, hfz, hnd⟩ := hW
  have hA : DataW.TrodAll enc Try.prog W 0 (fun _ => true) true Try.f3.params.toList args.toList ds p := hA0
  rw [Try.params3] at hA hval
  obtain ⟨v0, vs0, d0, ds0, p0, q0, hargs, rfl, rfl, h0, r0⟩ := trodAll_cons hA
  obtain ⟨v1, vs1, d1, ds1, p1, q1, rfl, rfl, rfl, h1, r1⟩ := trodAll_cons r0
  obtain ⟨v2, vs2, d2, ds2, p2, q2, rfl, rfl, rfl, h2, r2⟩ := trodAll_cons r1
  obtain ⟨rfl, rfl, rfl⟩ := trodAll_nil r2
  obtain rfl : args = #[v0, v1, v2] := by cases args; simp_all
  obtain ⟨rfl, rfl⟩ := trodVars_none hV
  have k0 := h0
  have lt0 : ∀ x ∈ p0, x.block < W.heap.size := by obtain ⟨m, hm⟩ := k0; exact DataW.trod_lt m _ _ _ hm
  have k1 := h1
  have lt1 : ∀ x ∈ p1, x.block < W.heap.size := by obtain ⟨m, hm⟩ := k1; exact DataW.trod_lt m _ _ _ hm
  have k2 := h2
  have lt2 : ∀ x ∈ p2, x.block < W.heap.size := by obtain ⟨m, hm⟩ := k2; exact DataW.trod_lt m _ _ _ hm
  obtain ⟨a0, len0, cap0, rfl, w0⟩ := open_deeds (hval 0 22 v0 rfl rfl) h0
  obtain ⟨kind, da, old, x, rfl⟩ := open_deed (hval 1 25 v1 rfl rfl) h1
  obtain ⟨a, rfl, _, _, wa⟩ := open_int Try.underlying5 (hval 2 5 v2 rfl rfl) h2
  clear hA0 hval0 hval
  refine (walk a0 len0 cap0 kind da old x a W w0 wa).mono fun e W' ⟨he, bel⟩ => ?_
  subst he
  exact ⟨_, rfl, _, _, _, [], _, [], hW', trodAll_mk1 (shut_bool Try.underlying4 _), (trodAll_cons_mk (Below.trod laid_prog (by kernel_rfl) (of_decide_eq_true (by kernel_rfl)) k0 bel lt0) (trodAll_cons_mk (Below.trod laid_prog (by kernel_rfl) (of_decide_eq_true (by kernel_rfl)) k1 bel lt1) (trodAll_cons_mk (Below.trod laid_prog (by kernel_rfl) (of_decide_eq_true (by kernel_rfl)) k2 bel lt2) trodAll_mk0))), rfl, bel.frame _, fun h => by cases h⟩

set_option maxRecDepth 100000 in
theorem lifted (os : Os) (started : os.Started) (H : Type) (enc : TypeId × Value → H) :
    ReturnsInHanded {} Try.checked os 3 .any (Rows.memApartSpec.pre6 enc Try.prog Try.f3 Rows.memApartRow.domain false) (Rows.memApartSpec.post enc Try.prog Try.f3 false true false false) := by
  refine returnsInHanded_of_change (C := Try.checked) own_prog started (by kernel_rfl) Try.func3
    (ChangeSpec.witness6 (enc := enc) (C := Try.checked) false ⟨#[], #[.slice none 0 0, .agg #[.int .i64 0, .int .i64 0, .int .u64 0, .int .u64 0], .int .u8 0], []⟩ 8 (by kernel_rfl) (by kernel_rfl) (by kernel_rfl) (by kernel_rfl)) ?_
  intro W base args ds gs before hval hW _ _
  exact contract H enc W base args ds gs before hval hW

theorem proved : Rows.MemApartSaid :=
  OpenClaim.holds_of_wide 3 Try.f3 rfl rfl rfl rfl rfl rfl rfl ⟨rfl, rfl, rfl, rfl, rfl⟩ rfl rfl rfl rfl rfl (by kernel_rfl) Try.func3 (by kernel_rfl)
    (of_decide_eq_true (by kernel_rfl)) (by unfold Func.isWrapper; first | (rw [if_pos (by decide +kernel)]; kernel_rfl) | (rw [if_neg (by decide +kernel)]; exact ⟨rfl, rfl⟩))
    (fun os started H enc _ => lifted os started H enc)

end Go.Proofs.Ytpnoibgcnjbokaa.lawMemApart
