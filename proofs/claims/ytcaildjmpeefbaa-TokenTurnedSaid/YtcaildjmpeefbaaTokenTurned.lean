/- With its range of another one, or another next revision, a token has other bytes; one that wants too much isn't one: for every token and number. No condition. -/
import Derived.Test.YtcaildjmpeefbaaTkEq
import Derived.Test.YtcaildjmpeefbaaTkLaw
import Derived.Test.YtcaildjmpeefbaaKeyLaw
namespace Go.Proofs.Ytcaildjmpeefbaa.lawTokenTurned
open Go.ChangeShapes Go.WideShapes Go.ChangeAt Go.RowKit Go.Deep Go.ChangeMaps
set_option linter.unusedVariables false
set_option linter.unusedSimpArgs false

theorem wf_small (m : Int) (h : -9223372036854775808 ≤ m) (k : m ≤ 9223372036854775807) : (Lit.int .i64 m).wf = true := by simp [Lit.wf, IntKind.has, IntKind.min, IntKind.max, IntKind.signed, IntKind.bits]; omega
set_option maxRecDepth 100000 in
set_option maxHeartbeats 4000000 in
theorem walk (x : Tk) (n : Int) (w : World) (fx : x.f.size ≤ maxLen) (tx : x.t.size ≤ maxLen) (nx : (Lit.int .i64 x.next).wf = true) (wn : (Lit.int .u16 n).wf = true) :
    Calls Try.prog 8 #[.agg #[.string x.f, .string x.t, .int .i64 x.next, .bool x.once], .int .u16 n] w fun e w' => e = .returned (.bool true) ∧ Below w.heap.size w w' := by
  have HB := Lib.hid (new_block w (.cells #[.string x.f, .string x.t, .int .i64 x.next, .bool x.once] 25))
  have HF := Lib.hid ((Fr.refl [] w).alloc (.cells #[.string x.f, .string x.t, .int .i64 x.next, .bool x.once] 25))
  go_enter Try.func8, Try.ntmps8
  go_wp2_with (go_at_call 9; refine go_stop ?_)
  unfold Stop
  refine (tok_awake _).mono ?_
  rintro e w1 ⟨rfl, hw⟩
  replace HB := Lib.hid (hw.keep HB.out (by simp))
  replace HF := Lib.hid (HF.out.trans hw (by simp))
  clear hw
  obtain ⟨t0, t1, t2, t3, _⟩ := cells4 HB.out
  go_wp2_with (go_at_call 11; refine go_stop ?_)
  unfold Stop
  refine (tok_made x _).mono ?_
  rintro e w2 ⟨rfl, hw⟩
  unfold tkVal
  dsimp only
  replace HF := Lib.hid (HF.out.trans hw (by simp))
  clear hw HB t0 t1 t2 t3
  have hlt := HF.out.size
  have HBX := Lib.hid (new_block w2 (.cells #[.string x.f, .string x.t, .int .i64 x.next, .bool x.once] 28))
  replace HF := Lib.hid (HF.out.alloc (.cells #[.string x.f, .string x.t, .int .i64 x.next, .bool x.once] 28))
  go_wp2_with (go_at_call 10; refine go_stop ?_)
  unfold Stop
  generalize hW : w2.alloc (.cells #[.string x.f, .string x.t, .int .i64 x.next, .bool x.once] 28) = w3 at *
  refine (tok_may x _ fx tx).mono ?_
  rintro e w4 ⟨rfl, hw⟩
  dsimp only
  replace HF := Lib.hid (HF.out.trans hw (by simp))
  replace HBX := Lib.hid (hw.keep HBX.out (by simp))
  clear hw hW
  obtain ⟨t0, t1, t2, t3, _⟩ := cells4 HBX.out
  have hn : 0 ≤ n ∧ n ≤ 65535 := by simp [Lit.wf, IntKind.has, IntKind.min, IntKind.max, IntKind.signed, IntKind.bits] at wn; omega
  by_cases hm : mayT x = true
  · rw [hm]
    obtain ⟨z1, z2, z3, z4⟩ := mayT_size hm
    have l1 := lt_of_block HBX.out
    have n1 : ¬ w4.heap.size = w2.heap.size := by omega
    have n2 : ¬ w2.heap.size = w4.heap.size := by omega
    have n3 : ¬ w4.heap.size + 1 = w2.heap.size := by omega
    have n4 : ¬ w2.heap.size = w4.heap.size + 1 := by omega
    have n5 : ¬ w4.heap.size + 1 + 1 = w2.heap.size := by omega
    have n6 : ¬ w2.heap.size = w4.heap.size + 1 + 1 := by omega
    have hq1 : 1 ≤ 1 + n % 1001 ∧ 1 + n % 1001 ≤ 1001 := by omega
    have hq2 : 1001 < 1002 + n ∧ 1002 + n ≤ 100000 := by omega
    go_wp2_with fail
    have HF5 := Lib.hid (((HF.out.alloc (.cells #[.string x.f, .string x.t, .int .i64 (1 + n % 1001), .bool x.once] 28)).alloc (.cells #[.string x.f, .string x.t, .int .i64 x.next, .bool (!x.once)] 28)).alloc (.cells #[.string x.f, .string x.t, .int .i64 (1002 + n), .bool x.once] 28))
    have HA5 := Lib.hid (((((Fr.refl [] w4).alloc (.cells #[.string x.f, .string x.t, .int .i64 (1 + n % 1001), .bool x.once] 28)).alloc (.cells #[.string x.f, .string x.t, .int .i64 x.next, .bool (!x.once)] 28)).alloc (.cells #[.string x.f, .string x.t, .int .i64 (1002 + n), .bool x.once] 28)).keep HBX.out (by simp))
    have HB5 := Lib.hid ((((Fr.refl [] _).alloc (.cells #[.string x.f, .string x.t, .int .i64 x.next, .bool (!x.once)] 28)).alloc (.cells #[.string x.f, .string x.t, .int .i64 (1002 + n), .bool x.once] 28)).keep (new_block_at (W := w4) (o := .cells #[.string x.f, .string x.t, .int .i64 (1 + n % 1001), .bool x.once] 28) rfl) (by simp))
    have HC5 := Lib.hid (((Fr.refl [] _).alloc (.cells #[.string x.f, .string x.t, .int .i64 (1002 + n), .bool x.once] 28)).keep (new_block_at (W := w4.alloc (.cells #[.string x.f, .string x.t, .int .i64 (1 + n % 1001), .bool x.once] 28)) (o := .cells #[.string x.f, .string x.t, .int .i64 x.next, .bool (!x.once)] 28) (B := w4.heap.size + 1) (by simp)) (by simp))
    have HD5 := Lib.hid (new_block_at (W := (w4.alloc (.cells #[.string x.f, .string x.t, .int .i64 (1 + n % 1001), .bool x.once] 28)).alloc (.cells #[.string x.f, .string x.t, .int .i64 x.next, .bool (!x.once)] 28)) (o := .cells #[.string x.f, .string x.t, .int .i64 (1002 + n), .bool x.once] 28) (B := w4.heap.size + 1 + 1) (by simp))
    clear t0 t1 t2 t3 HBX HF n1 n2 n3 n4 n5 n6
    obtain ⟨oo, hoo⟩ : ∃ oo, (!x.once) = oo := ⟨_, rfl⟩
    obtain ⟨m, hmm⟩ : ∃ m, 1 + n % 1001 = m := ⟨_, rfl⟩
    obtain ⟨dd, hdd⟩ : ∃ dd, 1002 + n = dd := ⟨_, rfl⟩
    rw [hoo, hmm, hdd] at HF5 HA5 HB5 HC5 HD5
    rw [hoo, hmm, hdd]
    rw [hmm] at hq1
    rw [hdd] at hq2
    generalize ((w4.alloc (.cells #[.string x.f, .string x.t, .int .i64 m, .bool x.once] 28)).alloc (.cells #[.string x.f, .string x.t, .int .i64 x.next, .bool oo] 28)).alloc (.cells #[.string x.f, .string x.t, .int .i64 dd, .bool x.once] 28) = w5 at *
    have mb : mayT (⟨x.f, x.t, m, x.once⟩ : Tk) = true := by
      have e : mayT (⟨x.f, x.t, m, x.once⟩ : Tk) = (mayRangeB x.f.toList x.t.toList && decide (1 ≤ m) && decide (m ≤ 1001)) := rfl
      have e0 : mayT x = (mayRangeB x.f.toList x.t.toList && decide (1 ≤ x.next) && decide (x.next ≤ 1001)) := rfl
      rw [e0] at hm
      simp only [Bool.and_eq_true] at hm
      rw [e, hm.1.1]
      simp [hq1.1, hq1.2]
    have mc : mayT (⟨x.f, x.t, x.next, oo⟩ : Tk) = true := hm
    have md : mayT (⟨x.f, x.t, dd, x.once⟩ : Tk) = false := by
      have e : mayT (⟨x.f, x.t, dd, x.once⟩ : Tk) = (mayRangeB x.f.toList x.t.toList && decide (1 ≤ dd) && decide (dd ≤ 1001)) := rfl
      rw [e, decide_eq_false (by omega : ¬ dd ≤ 1001), Bool.and_false]
    obtain ⟨q, hq⟩ : ∃ q, decide (m = x.next) = q := ⟨_, rfl⟩
    obtain ⟨y1, hy1⟩ : ∃ z, tkBa (putT x) = z := ⟨_, rfl⟩
    obtain ⟨y2, hy2⟩ : ∃ z, tkBa (putT (⟨x.f, x.t, m, x.once⟩ : Tk)) = z := ⟨_, rfl⟩
    obtain ⟨y3, hy3⟩ : ∃ z, tkBa (putT (⟨x.f, x.t, x.next, oo⟩ : Tk)) = z := ⟨_, rfl⟩
    have eq1 : (y1.toList == y2.toList) = q := by
      have h := put_eq hm mb
      rw [hy1, hy2] at h
      rw [h, ← hq]
      simp only [eqTk, decide_true, Bool.true_and, Bool.and_true]
      rw [decide_eq_decide]
      exact ⟨fun h => h.symm, fun h => h.symm⟩
    have eq2 : (m == x.next) = q := by rw [← hq]; exact Bool.eq_iff_iff.2 (by simp)
    have eq3 : (y3.toList == y1.toList) = false := by
      have h := put_eq mc hm
      rw [hy1, hy3] at h
      rw [h, Bool.eq_false_iff]
      intro hx
      simp only [eqTk, Bool.and_eq_true, decide_eq_true_eq] at hx
      rw [← hoo] at hx
      cases hxo : x.once <;> rw [hxo] at hx <;> exact absurd hx.2 (by decide)
    have px : CV 13 #[.agg #[.string x.f, .string x.t, .int .i64 x.next, .bool x.once]] (.string y1) := ⟨fun W => by have h := tok_put x W (by omega) (by omega) nx; rw [hy1] at h; exact h⟩
    have pb : CV 13 #[.agg #[.string x.f, .string x.t, .int .i64 m, .bool x.once]] (.string y2) := ⟨fun W => by have h := tok_put (⟨x.f, x.t, m, x.once⟩ : Tk) W (by show x.f.size ≤ _; omega) (by show x.t.size ≤ _; omega) (wf_small m (by omega) (by omega)); rw [hy2] at h; exact h⟩
    have pc : CV 13 #[.agg #[.string x.f, .string x.t, .int .i64 x.next, .bool oo]] (.string y3) := ⟨fun W => by have h := tok_put (⟨x.f, x.t, x.next, oo⟩ : Tk) W (by show x.f.size ≤ _; omega) (by show x.t.size ≤ _; omega) nx; rw [hy3] at h; exact h⟩
    have vb : CV 10 #[.agg #[.string x.f, .string x.t, .int .i64 m, .bool x.once]] (.bool true) := ⟨fun W => by have h := tok_may (⟨x.f, x.t, m, x.once⟩ : Tk) W fx tx; rw [mb] at h; exact h⟩
    have vc : CV 10 #[.agg #[.string x.f, .string x.t, .int .i64 x.next, .bool oo]] (.bool true) := ⟨fun W => by have h := tok_may (⟨x.f, x.t, x.next, oo⟩ : Tk) W fx tx; rw [mc] at h; exact h⟩
    have vd : CV 10 #[.agg #[.string x.f, .string x.t, .int .i64 dd, .bool x.once]] (.bool false) := ⟨fun W => by have h := tok_may (⟨x.f, x.t, dd, x.once⟩ : Tk) W fx tx; rw [md] at h; exact h⟩
    obtain ⟨a0, a1, a2, a3, _⟩ := cells4 HA5.out
    have A0 := fun n : After [] w5 => n.cell a0 (by simp)
    have A1 := fun n : After [] w5 => n.cell a1 (by simp)
    have A2 := fun n : After [] w5 => n.cell a2 (by simp)
    have A3 := fun n : After [] w5 => n.cell a3 (by simp)
    obtain ⟨b0, b1, b2, b3, _⟩ := cells4 HB5.out
    have B0 := fun n : After [] w5 => n.cell b0 (by simp)
    have B1 := fun n : After [] w5 => n.cell b1 (by simp)
    have B2 := fun n : After [] w5 => n.cell b2 (by simp)
    have B3 := fun n : After [] w5 => n.cell b3 (by simp)
    obtain ⟨c0, c1, c2, c3, _⟩ := cells4 HC5.out
    have C0 := fun n : After [] w5 => n.cell c0 (by simp)
    have C1 := fun n : After [] w5 => n.cell c1 (by simp)
    have C2 := fun n : After [] w5 => n.cell c2 (by simp)
    have C3 := fun n : After [] w5 => n.cell c3 (by simp)
    obtain ⟨d0, d1, d2, d3, _⟩ := cells4 HD5.out
    have D0 := fun n : After [] w5 => n.cell d0 (by simp)
    have D1 := fun n : After [] w5 => n.cell d1 (by simp)
    have D2 := fun n : After [] w5 => n.cell d2 (by simp)
    have D3 := fun n : After [] w5 => n.cell d3 (by simp)
    clear hq hy1 hy2 hy3 hoo hmm hdd mb mc md hq1 hq2 hm hn z1 z2 z3 z4 nx wn fx tx hlt l1
    refine wp_region_after [] (by kernel_rfl) (by kernel_rfl) ?_
    repeat (go_big_quiet_step (first
      | (go_at_call 13; with_reducible exact After.quiet (px.out _))
      | (go_at_call 13; with_reducible exact After.quiet (pb.out _))
      | (go_at_call 13; with_reducible exact After.quiet (pc.out _))
      | (go_at_call 10; with_reducible exact After.quiet (vd.out _))
      | (go_at_call 10; with_reducible exact After.quiet (vb.out _))
      | (go_at_call 10; with_reducible exact After.quiet (vc.out _))))
    refine wpQuiet_nil ?_
    rintro _ ⟨nq, rfl⟩
    go_wp2
    go_ret
    exact ⟨rfl, (HF5.out.trans nq.fr (by simp)).below (Nat.le_refl _) (by simp)⟩
  · have hm : mayT x = false := by simpa using hm
    rw [hm]
    go_wp2
    go_ret
    exact ⟨rfl, HF.out.below (Nat.le_refl _) (by simp)⟩

set_option maxRecDepth 100000 in
theorem contract (H : Type) (enc : TypeId × Value → H) (W : World) (base : Nat) (args : Array Value) (ds gs : List (DataW H)) (before : List MemPlace)
    (hval0 : ∀ (j : Nat) t v, Try.f8.params[j]? = some t → args[j]? = some v → Value.okWide Try.prog W .any base t v)
    (hW : DataW.Whole enc Try.prog Try.f8.params.toList Rows.tokenTurnedSpec.vars false W args.toList ds gs before) :
    Calls Try.prog 8 args W fun e W' => ∃ v, e = .returned v ∧ Rows.tokenTurnedSpec.post enc Try.prog Try.f8 false true false false W args v W' := by
  have hval : ∀ (j : Nat) t v, Try.f8.params[j]? = some t → args[j]? = some v → Value.okWide Try.prog W .any base t v := hval0
  have hW' := hW
  obtain ⟨p, q, hA0, hV, rfl, hfz, hnd⟩ := hW
  have hA : DataW.TrodAll enc Try.prog W 0 (fun _ => true) true Try.f8.params.toList args.toList ds p := hA0
  rw [Try.params8] at hA hval
  obtain ⟨v0, vs0, d0, ds0, p0, q0, hargs, rfl, rfl, h0, r0⟩ := trodAll_cons hA
  obtain ⟨v1, vs1, d1, ds1, p1, q1, rfl, rfl, rfl, h1, r1⟩ := trodAll_cons r0
  obtain ⟨rfl, rfl, rfl⟩ := trodAll_nil r1
  obtain rfl : args = #[v0, v1] := by cases args; simp_all
  obtain ⟨rfl, rfl⟩ := trodVars_none hV
  have k0 := h0
  have lt0 : ∀ x ∈ p0, x.block < W.heap.size := by obtain ⟨m, hm⟩ := k0; exact DataW.trod_lt m _ _ _ hm
  have k1 := h1
  have lt1 : ∀ x ∈ p1, x.block < W.heap.size := by obtain ⟨m, hm⟩ := k1; exact DataW.trod_lt m _ _ _ hm
  obtain ⟨x, rfl, fx, tx, nx⟩ := open_tok (hval 0 25 v0 rfl rfl) h0
  obtain ⟨n, rfl, _, _, wn⟩ := open_int Try.underlying42 (hval 1 42 v1 rfl rfl) h1
  clear hA0 hval0 hval
  refine (walk x n W fx tx nx wn).mono fun e W' ⟨he, bel⟩ => ?_
  subst he
  exact ⟨_, rfl, _, _, _, [], _, [], hW', trodAll_mk1 (shut_bool Try.underlying4 _), (trodAll_cons_mk (Below.trod laid_prog (by kernel_rfl) (of_decide_eq_true (by kernel_rfl)) k0 bel lt0) (trodAll_cons_mk (Below.trod laid_prog (by kernel_rfl) (of_decide_eq_true (by kernel_rfl)) k1 bel lt1) trodAll_mk0)), rfl, bel.frame _, fun h => by cases h⟩

set_option maxRecDepth 100000 in
theorem lifted (os : Os) (started : os.Started) (H : Type) (enc : TypeId × Value → H) :
    ReturnsInHanded {} Try.checked os 8 .any (Rows.tokenTurnedSpec.pre6 enc Try.prog Try.f8 Rows.tokenTurnedRow.domain false) (Rows.tokenTurnedSpec.post enc Try.prog Try.f8 false true false false) := by
  refine returnsInHanded_of_change (C := Try.checked) own_prog started (by kernel_rfl) Try.func8
    (ChangeSpec.witness6 (enc := enc) (C := Try.checked) false ⟨#[], #[.agg #[.string ⟨#[]⟩, .string ⟨#[]⟩, .int .i64 0, .bool false], .int .u16 0], []⟩ 8 (by kernel_rfl) (by kernel_rfl) (by kernel_rfl) (by kernel_rfl)) ?_
  intro W base args ds gs before hval hW _ _
  exact contract H enc W base args ds gs before hval hW

theorem proved : Rows.TokenTurnedSaid :=
  OpenClaim.holds_of_wide 8 Try.f8 rfl rfl rfl rfl rfl rfl rfl ⟨rfl, rfl, rfl, rfl, rfl⟩ rfl rfl rfl rfl rfl (by kernel_rfl) Try.func8 (by kernel_rfl)
    (of_decide_eq_true (by kernel_rfl)) (by unfold Func.isWrapper; first | (rw [if_pos (by decide +kernel)]; kernel_rfl) | (rw [if_neg (by decide +kernel)]; exact ⟨rfl, rfl⟩))
    (fun os started H enc _ => lifted os started H enc)

end Go.Proofs.Ytcaildjmpeefbaa.lawTokenTurned
