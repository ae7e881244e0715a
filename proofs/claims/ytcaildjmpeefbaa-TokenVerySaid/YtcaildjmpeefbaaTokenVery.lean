/- What is taken may be, and has the very bytes; with a byte less, or more, it is none: for every string and byte. No condition. -/
import Derived.Test.YtcaildjmpeefbaaTkAwake
import Derived.Test.YtcaildjmpeefbaaTkLaw
namespace Go.Proofs.Ytcaildjmpeefbaa.lawTokenVery
open Go.ChangeShapes Go.WideShapes Go.ChangeAt Go.RowKit Go.Deep Go.ChangeMaps
set_option linter.unusedVariables false
set_option linter.unusedSimpArgs false

theorem size_take {s : ByteArray} {T : Tk} (h : takeT s.toList = some T) : ¬ s.size < 5 := by
  intro hs
  rw [take_short (by rw [tk_len]; omega)] at h
  cases h
theorem take_cut {s : ByteArray} {T : Tk} (h : takeT s.toList = some T) {n : Nat} (hn : n + 1 = s.size) : takeT (s.extract 0 n).toList = none := by
  have hl := tk_len s
  have e : (s.extract 0 n).toList = s.toList.take n := by
    rw [ByteArray.toList_eq, ByteArray.toList_eq]
    simp
  rw [e]
  have hlt : n < s.toList.length := by omega
  have e2 : s.toList = s.toList.take n ++ [s.toList[n]] := by
    rw [List.take_append_getElem, List.take_of_length_le (by omega)]
  rw [e2] at h
  exact take_less h
set_option maxRecDepth 100000 in
set_option maxHeartbeats 4000000 in
theorem walk (s : ByteArray) (b : Int) (w : World) (wb : (Lit.int .u8 b).wf = true) :
    Calls Try.prog 6 #[.string s, .int .u8 b] w fun e w' => e = .returned (.bool true) ∧ Below w.heap.size w w' := by
  obtain ⟨u, rfl⟩ : ∃ u : UInt8, b = (u.toNat : Int) := by
    have h8 : 0 ≤ b ∧ b ≤ 255 := by simpa [Lit.wf, IntKind.min, IntKind.max, IntKind.signed, IntKind.bits] using wb
    refine ⟨UInt8.ofNat b.toNat, ?_⟩
    rw [UInt8.toNat_ofNat']
    omega
  clear wb
  go_enter Try.func6, Try.ntmps6
  go_wp2_with (go_at_call 9; refine go_stop ?_)
  unfold Stop
  refine (tok_awake _).mono ?_
  rintro e w1 ⟨rfl, hw⟩
  have HF := Lib.hid hw
  clear hw
  by_cases h1 : 1000 < s.size
  · have g1 : decide (1000 < (s.size : Int)) = true := by simp; omega
    go_wp2
    go_ret
    exact ⟨rfl, HF.out.below (Nat.le_refl _) (by simp)⟩
  · have g1 : decide (1000 < (s.size : Int)) = false := by simp; omega
    have h6 : s.size ≤ 1000000 := by omega
    have h5 := Lib.hid (show s.size ≤ 1000 by omega)
    clear h1
    go_wp2_with (go_at_call 15; refine go_stop ?_)
    unfold Stop
    refine (tok_take s _ h6).mono ?_
    rintro e w2 ⟨rfl, hw⟩
    replace HF := Lib.hid (HF.out.trans hw (by simp))
    clear hw
    cases hT : takeT s.toList with
    | none =>
      unfold takeV tkVal Tk.zero
      dsimp only
      go_wp2
      go_ret
      exact ⟨rfl, (HF.out.alloc _).below (Nat.le_refl _) (by simp)⟩
    | some T =>
      have hmp := take_some hT
      have hs5 := size_take hT
      obtain ⟨z1, z2, z3, z4⟩ := mayT_size hmp.1
      have hnx : (Lit.int .i64 T.next).wf = true := by simp [Lit.wf, IntKind.has, IntKind.min, IntKind.max, IntKind.signed, IntKind.bits]; omega
      have HT := Lib.hid hT
      have HMP := Lib.hid hmp
      clear hT hmp
      unfold takeV tkVal
      dsimp only
      have hle := HF.out.size
      have HB := Lib.hid (new_block w2 (.cells #[.string T.f, .string T.t, .int .i64 T.next, .bool T.once] 28))
      replace HF := Lib.hid (HF.out.alloc (.cells #[.string T.f, .string T.t, .int .i64 T.next, .bool T.once] 28))
      have l5 : (1 : Int) ≤ s.size := by omega
      have l6 : (0 : Int) ≤ (s.size : Int) - 1 := by omega
      have l7 : (s.size : Int) - 1 ≤ s.size := by omega
      have lx : (s.extract 0 (s.size - 1)).size ≤ 1000000 := by rw [ByteArray.size_extract]; omega
      go_wp2_with (go_at_call 15; refine go_stop ?_)
      unfold Stop
      generalize hW : w2.alloc (.cells #[.string T.f, .string T.t, .int .i64 T.next, .bool T.once] 28) = w3 at *
      refine (tok_take _ _ lx).mono ?_
      rintro e w4 ⟨rfl, hw⟩
      rw [take_cut HT.out (n := s.size - 1) (by omega)]
      unfold takeV tkVal Tk.zero
      dsimp only
      replace HF := Lib.hid (HF.out.trans hw (by simp))
      replace HB := Lib.hid (hw.keep HB.out (by simp))
      have hle4 := HF.out.size
      replace HF := Lib.hid (HF.out.alloc (.cells #[.string ⟨#[]⟩, .string ⟨#[]⟩, .int .i64 0, .bool false] 28))
      replace HB := Lib.hid (((Fr.refl [] w4).alloc (.cells #[.string ⟨#[]⟩, .string ⟨#[]⟩, .int .i64 0, .bool false] 28)).keep HB.out (by simp))
      clear hw hW l5 l6 l7 lx
      have ad := fun X => add_str s ⟨#[u]⟩ (by show s.size + 1 ≤ _; omega) X
      have cv := conv_bytes (w4.alloc (.cells #[.string ⟨#[]⟩, .string ⟨#[]⟩, .int .i64 0, .bool false] 28)) (w4.heap.size + 1) (by simp) [u]
      simp only [List.length_cons, List.length_nil, List.map_cons, List.map_nil, Nat.zero_add] at cv
      have HSX : Hid ((s ++ ⟨#[u]⟩ : ByteArray).toList = s.toList ++ [u] ∧ (s ++ ⟨#[u]⟩ : ByteArray).size ≤ 1000000) := Lib.hid ⟨by rw [cat_list, show (⟨#[u]⟩ : ByteArray).toList = [u] by simp [ByteArray.toList_eq]], by rw [ByteArray.size_append]; show s.size + 1 ≤ _; have := h5.out; omega⟩
      go_wp2_with (go_at_call 15; refine go_stop ?_)
      unfold Stop
      replace HF := Lib.hid (HF.out.alloc (.cells #[.int .u8 u.toNat] 5))
      replace HB := Lib.hid (((Fr.refl [] (w4.alloc (.cells #[.string ⟨#[]⟩, .string ⟨#[]⟩, .int .i64 0, .bool false] 28))).alloc (.cells #[.int .u8 u.toNat] 5)).keep HB.out (by simp))
      clear cv ad
      generalize (w4.alloc (.cells #[.string ⟨#[]⟩, .string ⟨#[]⟩, .int .i64 0, .bool false] 28)).alloc (.cells #[.int .u8 u.toNat] 5) = w5 at *
      refine (tok_take _ _ HSX.out.2).mono ?_
      rintro e w6 ⟨rfl, hw⟩
      rw [HSX.out.1, take_more HT.out]
      unfold takeV tkVal Tk.zero
      dsimp only
      replace HF := Lib.hid (HF.out.trans hw (by simp))
      replace HB := Lib.hid (hw.keep HB.out (by simp))
      clear hw
      have l6 := lt_of_block HB.out
      have n1 : ¬ w6.heap.size = w2.heap.size := by omega
      have n2 : ¬ w2.heap.size = w6.heap.size := by omega
      obtain ⟨t0, t1, t2, t3, _⟩ := cells4 HB.out
      go_wp2_with (go_at_call 10; refine go_stop ?_)
      unfold Stop
      replace HF := Lib.hid (HF.out.alloc (.cells #[.string ⟨#[]⟩, .string ⟨#[]⟩, .int .i64 0, .bool false] 28))
      replace HB := Lib.hid (((Fr.refl [] w6).alloc (.cells #[.string ⟨#[]⟩, .string ⟨#[]⟩, .int .i64 0, .bool false] 28)).keep HB.out (by simp))
      clear t0 t1 t2 t3
      generalize hW : w6.alloc (.cells #[.string ⟨#[]⟩, .string ⟨#[]⟩, .int .i64 0, .bool false] 28) = w7 at *
      refine (tok_may T _ (by unfold maxLen; omega) (by unfold maxLen; omega)).mono ?_
      rintro e w8 ⟨rfl, hw⟩
      rw [HMP.out.1]
      dsimp only
      replace HF := Lib.hid (HF.out.trans hw (by simp))
      replace HB := Lib.hid (hw.keep HB.out (by simp))
      clear hw hW
      obtain ⟨t0, t1, t2, t3, _⟩ := cells4 HB.out
      go_wp2_with (go_at_call 13; refine go_stop ?_)
      unfold Stop
      refine (tok_put T _ (by omega) (by omega) hnx).mono ?_
      rintro e w9 ⟨rfl, hw⟩
      rw [HMP.out.2, tkBa_list]
      dsimp only
      replace HF := Lib.hid (HF.out.trans hw (by simp))
      clear hw
      go_wp2
      go_ret
      exact ⟨rfl, HF.out.below (Nat.le_refl _) (by simp)⟩

set_option maxRecDepth 100000 in
theorem contract (H : Type) (enc : TypeId × Value → H) (W : World) (base : Nat) (args : Array Value) (ds gs : List (DataW H)) (before : List MemPlace)
    (hval0 : ∀ (j : Nat) t v, Try.f6.params[j]? = some t → args[j]? = some v → Value.okWide Try.prog W .any base t v)
    (hW : DataW.Whole enc Try.prog Try.f6.params.toList Rows.tokenVerySpec.vars false W args.toList ds gs before) :
    Calls Try.prog 6 args W fun e W' => ∃ v, e = .returned v ∧ Rows.tokenVerySpec.post enc Try.prog Try.f6 false true false false W args v W' := by
  have hval : ∀ (j : Nat) t v, Try.f6.params[j]? = some t → args[j]? = some v → Value.okWide Try.prog W .any base t v := hval0
  have hW' := hW
  obtain ⟨p, q, hA0, hV, rfl, hfz, hnd⟩ := hW
  have hA : DataW.TrodAll enc Try.prog W 0 (fun _ => true) true Try.f6.params.toList args.toList ds p := hA0
  rw [Try.params6] at hA hval
  obtain ⟨v0, vs0, d0, ds0, p0, q0, hargs, rfl, rfl, h0, r0⟩ := trodAll_cons hA
  obtain ⟨v1, vs1, d1, ds1, p1, q1, rfl, rfl, rfl, h1, r1⟩ := trodAll_cons r0
  obtain ⟨rfl, rfl, rfl⟩ := trodAll_nil r1
  obtain rfl : args = #[v0, v1] := by cases args; simp_all
  obtain ⟨rfl, rfl⟩ := trodVars_none hV
  have k0 := h0
  have lt0 : ∀ x ∈ p0, x.block < W.heap.size := by obtain ⟨m, hm⟩ := k0; exact DataW.trod_lt m _ _ _ hm
  have k1 := h1
  have lt1 : ∀ x ∈ p1, x.block < W.heap.size := by obtain ⟨m, hm⟩ := k1; exact DataW.trod_lt m _ _ _ hm
  obtain ⟨s, rfl, rfl, _, ws⟩ := open_string Try.underlying9 (hval 0 9 v0 rfl rfl) h0
  obtain ⟨b, rfl, _, _, wb⟩ := open_int Try.underlying5 (hval 1 5 v1 rfl rfl) h1
  clear hA0 hval0 hval
  refine (walk s b W wb).mono fun e W' ⟨he, bel⟩ => ?_
  subst he
  exact ⟨_, rfl, _, _, _, [], _, [], hW', trodAll_mk1 (shut_bool Try.underlying4 _), (trodAll_cons_mk (Below.trod laid_prog (by kernel_rfl) (of_decide_eq_true (by kernel_rfl)) k0 bel lt0) (trodAll_cons_mk (Below.trod laid_prog (by kernel_rfl) (of_decide_eq_true (by kernel_rfl)) k1 bel lt1) trodAll_mk0)), rfl, bel.frame _, fun h => by cases h⟩

set_option maxRecDepth 100000 in
theorem lifted (os : Os) (started : os.Started) (H : Type) (enc : TypeId × Value → H) :
    ReturnsInHanded {} Try.checked os 6 .any (Rows.tokenVerySpec.pre6 enc Try.prog Try.f6 Rows.tokenVeryRow.domain false) (Rows.tokenVerySpec.post enc Try.prog Try.f6 false true false false) := by
  refine returnsInHanded_of_change (C := Try.checked) own_prog started (by kernel_rfl) Try.func6
    (ChangeSpec.witness6 (enc := enc) (C := Try.checked) false ⟨#[], #[.string ⟨#[]⟩, .int .u8 0], []⟩ 8 (by kernel_rfl) (by kernel_rfl) (by kernel_rfl) (by kernel_rfl)) ?_
  intro W base args ds gs before hval hW _ _
  exact contract H enc W base args ds gs before hval hW

theorem proved : Rows.TokenVerySaid :=
  OpenClaim.holds_of_wide 6 Try.f6 rfl rfl rfl rfl rfl rfl rfl ⟨rfl, rfl, rfl, rfl, rfl⟩ rfl rfl rfl rfl rfl (by kernel_rfl) Try.func6 (by kernel_rfl)
    (of_decide_eq_true (by kernel_rfl)) (by unfold Func.isWrapper; first | (rw [if_pos (by decide +kernel)]; kernel_rfl) | (rw [if_neg (by decide +kernel)]; exact ⟨rfl, rfl⟩))
    (fun os started H enc _ => lifted os started H enc)

end Go.Proofs.Ytcaildjmpeefbaa.lawTokenVery
