/- A watch more stabs no fewer; the others are stabbed as they were: for every list of deeds, every watch and key. No condition. -/
import Derived.Test.YtcieokfjkfpajaaSiAwake
import Derived.Test.YtcieokfjkfpajaaSiLaw
import Derived.Deep.DeepCutAuto
namespace Go.Proofs.Ytcieokfjkfpajaa.lawSubidxMore
open Go.ChangeShapes Go.WideShapes Go.ChangeAt Go.RowKit Go.Deep Go.ChangeMaps
set_option linter.unusedVariables false
set_option linter.unusedSimpArgs false

theorem stab_len (k : Bs) (rev : Int) (L : List Sb) : (stabS k rev L).length ≤ L.length := by
  unfold stabS sortI
  rw [(List.mergeSort_perm _ _).length_eq, List.length_map]
  exact List.length_filter_le _ _
theorem stab_mem {k : Bs} {rev : Int} {L : List Sb} {x : Int} : x ∈ stabS k rev L ↔ ∃ y ∈ L, Sb.want k rev y = true ∧ y.id = x := by
  unfold stabS
  rw [sortI_mem]
  simp only [List.mem_map, List.mem_filter]
  constructor
  · rintro ⟨y, ⟨h1, h2⟩, h3⟩; exact ⟨y, h1, h2, h3⟩
  · rintro ⟨y, h1, h2, h3⟩; exact ⟨y, ⟨h1, h2⟩, h3⟩
theorem stab_strict {k : Bs} {rev : Int} {L : List Sb} (h : (L.map (·.id)).Nodup) : (stabS k rev L).Pairwise (· < ·) :=
  sortI_strict (List.Nodup.sublist (List.filter_sublist.map _) h)
theorem others_eq {k : Bs} {rev : Int} {L : List Sb} {s : Sb} (hn : (L.map (·.id)).Nodup) (hh : hasId L s.id = false) :
    (stabS k rev (insL s L)).filter (fun x => !(x == s.id)) = stabS k rev L := by
  have hn2 : ((insL s L).map (·.id)).Nodup := by
    rw [((insL_perm s L).map (·.id)).nodup_iff]
    refine List.nodup_cons.2 ⟨fun hm => ?_, hn⟩
    obtain ⟨y, hy, e⟩ := List.mem_map.1 hm
    exact hasId_not hh y hy e
  refine strict_unique (List.Pairwise.filter _ (stab_strict hn2)) (stab_strict hn) fun x => ?_
  rw [List.mem_filter, stab_mem, stab_mem]
  constructor
  · rintro ⟨⟨y, hy, h1, h2⟩, h3⟩
    rcases (insL_mem s L y).1 hy with rfl | hy
    · rw [h2] at h3; simp at h3
    · exact ⟨y, hy, h1, h2⟩
  · rintro ⟨y, hy, h1, h2⟩
    refine ⟨⟨y, (insL_mem s L y).2 (Or.inr hy), h1, h2⟩, ?_⟩
    have := hasId_not hh y hy
    rw [h2] at this
    simpa using this
theorem own_eq {k : Bs} {rev : Int} {L : List Sb} {s : Sb} (hh : hasId L s.id = false) :
    (stabS k rev (insL s L)).any (fun x => x == s.id) = Sb.want k rev s := by
  cases hw : Sb.want k rev s with
  | true =>
    rw [List.any_eq_true]
    exact ⟨s.id, stab_mem.2 ⟨s, (insL_mem s L s).2 (Or.inl rfl), hw, rfl⟩, by simp⟩
  | false =>
    rw [List.any_eq_false]
    intro x hx e
    have e : x = s.id := by simpa using e
    obtain ⟨y, hy, h1, h2⟩ := stab_mem.1 hx
    rcases (insL_mem s L y).1 hy with rfl | hy
    · rw [h1] at hw; cases hw
    · exact hasId_not hh y hy (h2.trans e)
theorem filt_snoc {P : List Int} {x a : Int} : (P ++ [x]).filter (fun y => !(y == a)) = P.filter (fun y => !(y == a)) ++ if x = a then [] else [x] := by
  rw [List.filter_append]
  congr 1
  by_cases h : x = a
  · simp [h]
  · simp [h]
set_option maxRecDepth 100000 in
set_option maxHeartbeats 8000000 in
theorem walk (lv : Value) (l : List Sd) (s : Sb) (k : ByteArray) (w : World) (hl : SdIn w lv l) (hw : wf64 s.id) :
    Calls Try.prog 7 #[lv, s.val, .string k] w fun e w' => e = .returned (.bool true) ∧ Below w.heap.size w w' := by
  obtain ⟨sl, cl, rfl, _, _⟩ := hl.1.form
  have HAW := Lib.hid fun W => si_awake W
  have HM := Lib.hid fun W => si_made s W
  have HRAN := Lib.hid fun W (hW : Fr [] w W) => si_ran _ l W (hl.keep0 hW)
  have HE := Lib.hid fun W => rin_any s.f s.t k W
  obtain ⟨L, hL⟩ : ∃ L, L = runL (l.take 60) := ⟨_, rfl⟩
  rw [← hL] at HRAN
  clear hL hl
  obtain ⟨O, hO⟩ : ∃ O, O = stabS k.toList 9 L := ⟨_, rfl⟩
  have HLL := Lib.hid fun (W : World) p S n (h : Ix W p S n L) => h.len
  have HND := Lib.hid fun (W : World) p S n (h : Ix W p S n L) => h.nodup
  have HOL := Lib.hid (show O.length ≤ L.length by rw [hO]; exact stab_len _ _ _)
  have HS60 := Lib.hid fun (W : World) p S (h : Ix W p S 60 L) => ix_stab h (by omega) k 9
  rw [← hO] at HS60
  have HADD := Lib.hid fun (W : World) p S (h : Ix W p S 60 L) => ix_add h (by omega) s hw
  obtain ⟨E, hE⟩ : ∃ E, E = addE L s := ⟨_, rfl⟩
  obtain ⟨L2, hL2⟩ : ∃ L2, L2 = addL L s := ⟨_, rfl⟩
  rw [← hE, ← hL2] at HADD
  obtain ⟨N, hN⟩ : ∃ N, N = stabS k.toList 9 L2 := ⟨_, rfl⟩
  have HS61 := Lib.hid fun (W : World) p S (h : Ix W p S 61 L2) => ix_stab h (by omega) k 9
  rw [← hN] at HS61
  have HNL := Lib.hid (show N.length ≤ L2.length by rw [hN]; exact stab_len _ _ _)
  have HLL2 := Lib.hid fun (W : World) p S n (h : Ix W p S n L2) => h.len
  have hcase : (¬ E = 0) ∨ (E = 0 ∧ ∀ (W : World) p S n, Ix W p S n L → N.filter (fun x => !(x == s.id)) = O ∧ N.any (fun x => x == s.id) = (inB s.f.toList s.t.toList k.toList && decide (s.rev < 9))) := by
    cases he : emptyB s.f.toList s.t.toList with
    | true => left; rw [hE, (addE_empty he).1]; decide
    | false =>
      cases hh : hasId L s.id with
      | true => left; rw [hE, (addE_busy he hh).1]; decide
      | false =>
        right
        rw [hE, hN, hL2, hO, (addE_ok he hh).1, (addE_ok he hh).2]
        refine ⟨rfl, fun W p S n h => ⟨others_eq h.nodup hh, ?_⟩⟩
        rw [own_eq hh, Sb.want, Bool.and_comm]
  clear hE hL2 hN hO hw
  generalize inB s.f.toList s.t.toList k.toList = J at *
  obtain ⟨si, sr, sf, st⟩ := s
  unfold Sb.val at *
  dsimp only at *
  have HB1 := Lib.hid (new_block w (Obj.cells #[.int .i64 si, .int .i64 sr, .string sf, .string st] 32))
  have HF1 := Lib.hid ((Fr.refl [] w).alloc (Obj.cells #[.int .i64 si, .int .i64 sr, .string sf, .string st] 32))
  have HC := Lib.hid hcase
  clear hcase
  go_enter Try.func7, Try.ntmps7
  go_wp2_with (go_at_call 9; refine (HAW.out _).mono ?_; rintro e w2 ⟨rfl, hf⟩; refine go_stop ?_)
  have HF2 := Lib.hid (HF1.out.trans hf (by simp))
  have HB2 := Lib.hid (hf.keep HB1.out (by simp))
  clear hf HAW
  unfold Stop
  go_wp2_with (go_at_call 17; refine (HRAN.out _ HF2.out).mono ?_; rintro e w3 ⟨p, S0, rfl, hx, hf, hge⟩; refine go_stop ?_)
  have HF3 := Lib.hid (HF2.out.trans hf (by simp))
  have HX3 := Lib.hid hx
  have HB3 := Lib.hid (hf.keep HB2.out (by simp))
  have HG3 : Hid (∀ k ∈ S0, w.heap.size + 1 ≤ k) := Lib.hid (fun k hk => by have := hge k hk; have := lt_of_block HB2.out; omega)
  clear hx hf hge HRAN
  unfold Stop
  go_wp2_with (go_at_call 14; refine (HS60.out _ _ _ HX3.out).mono ?_; rintro e w4 ⟨v4, rfl, ho, hf⟩; refine go_stop ?_)
  obtain ⟨s4, c4, hv4, _⟩ := ho.lies.form
  subst hv4
  have HR4 := Lib.hid (OutAt.far ho inC.len HX3.out.all_lt)
  have HO4 := Lib.hid (out_in ho)
  have HF4 := Lib.hid (HF3.out.trans hf (by simp))
  have HB4 := Lib.hid (hf.keep HB3.out (by simp))
  have HX4 := Lib.hid (HX3.out.keep0 hf)
  have HG4 := Lib.hid HG3.out
  clear hf ho
  unfold Stop
  obtain ⟨x0, x1, x2, x3, _⟩ := cells4 HB4.out
  go_wp2_with (go_at_call 16; refine (HM.out _).mono ?_; rintro e w5 ⟨rfl, hf⟩; refine go_stop ?_)
  have HF5 := Lib.hid (HF4.out.trans hf (by simp))
  have HB5 := Lib.hid (hf.keep HB4.out (by simp))
  have HX5 := Lib.hid (HX4.out.keep0 hf)
  have HG5 := Lib.hid HG4.out
  have HR5 := Lib.hid (HR4.out.keep0 hf)
  clear hf x0 x1 x2 x3
  unfold Stop
  go_wp2_with (go_at_call 19; refine (HADD.out _ _ _ HX5.out).mono ?_; rintro e w6 ⟨rfl, S1, hx, hf, hg, hs⟩; refine go_stop ?_)
  have HX6 := Lib.hid hx
  have HF6 := Lib.hid (HF5.out.trans hf (fun k hk => Or.inr (by have := HG5.out k hk; omega)))
  have HG6 := Lib.hid (Grow.ge hg (n := w.heap.size + 1) (by have := lt_of_block HB5.out; omega) HG5.out)
  have HB6 := Lib.hid (hf.keep HB5.out (fun hk => by have := HG5.out _ hk; omega))
  have HR6 := Lib.hid (LFar.step HR5.out hf hg)
  clear hx hf hg hs
  unfold Stop
  rcases HC.out with hE | ⟨hE, hC⟩
  · have t1 : (E == 0) = false := by simpa using hE
    go_wp2_with fail
    go_ret
    exact ⟨rfl, HF6.out.below (Nat.le_refl _) (by simp)⟩
  subst hE
  obtain ⟨hC1, hC2⟩ := hC _ _ _ _ HX5.out
  have HC1 := Lib.hid hC1
  have HC2 := Lib.hid hC2
  clear hC hC1 hC2 HC
  go_wp2_with (go_at_call 14; refine (HS61.out _ _ _ HX6.out).mono ?_; rintro e w7 ⟨v7, rfl, ho, hf⟩; refine go_stop ?_)
  obtain ⟨s7, c7, hv7, _⟩ := ho.lies.form
  subst hv7
  have HNR7 := Lib.hid (OutAt.far ho inC.len HX6.out.all_lt)
  have HO7 := Lib.hid (out_in ho)
  have HF7 := Lib.hid (HF6.out.trans hf (by simp))
  have HB7 := Lib.hid (hf.keep HB6.out (by simp))
  have HX7 := Lib.hid (HX6.out.keep0 hf)
  have HG7 := Lib.hid HG6.out
  have HR7 := Lib.hid (HR6.out.keep0 hf)
  clear hf ho
  unfold Stop
  obtain ⟨x0, x1, x2, x3, _⟩ := cells4 HB7.out
  have HNI := Lib.hid HO7.out
  have hnl : N.length ≤ 100000 := by have := HNL.out; have := HLL2.out _ _ _ _ HX7.out; omega
  have HOB : Hid (O.length ≤ 100000) := Lib.hid (by have := HOL.out; have := HLL.out _ _ _ _ HX5.out; omega)
  clear x0 x1 x2 x3
  go_upto_region 10 with fail
  go_loopw [10, 12, 13] (fun ov bv iv wr => ∃ (j : Nat) (o : List Int), iv = .int .i64 j ∧ j ≤ N.length ∧ bv = .bool ((N.take j).any (fun x => x == si)) ∧ OutAt inC 3 1 w7 wr ov o ∧ o = (N.take j).filter (fun x => !(x == si)) ∧ o.length ≤ j ∧ Fr [] w7 wr) (fun _ _ i _ => N.length - (intOf i).toNat)
  case atStart => exact ⟨0, [], rfl, Nat.zero_le _, rfl, OutAt.nil _ _, rfl, by simp, Fr.refl _ _⟩
  case round =>
    obtain ⟨j, o, rfl, hj, rfl, ho, hoe, hol, hf⟩ := hrel
    have HO := Lib.hid ho
    have HOE := Lib.hid hoe
    have HF := Lib.hid hf
    clear ho hoe hf
    obtain ⟨B, hB⟩ : ∃ B, B = (N.take j).any (fun x => x == si) := ⟨_, rfl⟩
    rw [← hB]
    have HBB := Lib.hid hB
    clear hB
    obtain ⟨x0, x1, x2, x3, _⟩ := cells4 (HF.out.keep HB7.out (by simp))
    by_cases h : j < N.length
    · obtain ⟨y, hy⟩ : ∃ y, N[j]? = some y := ⟨_, List.getElem?_eq_getElem h⟩
      obtain ⟨g, off, d1, e1, _, l1, k1⟩ := InIn.here HNI.out (by omega)
      simp only [Value.slice.injEq] at e1
      obtain ⟨rfl, _, rfl⟩ := e1
      have a0 := HF.out.cell (k1 j y hy) (by simp)
      have HTK := Lib.hid (take_snoc hy)
      have HFS := Lib.hid (filt_snoc (P := N.take j) (x := y) (a := si))
      have t1 : decide (j < N.length) = true := by simpa using h
      have A0 := fun n : After [] wr => n.cell a0 (by simp)
      have X0 := fun n : After [] wr => n.cell x0 (by simp)
      clear k1 hy a0 x0 x1 x2 x3
      go_upto_region 12 with fail
      refine wp_region_after [] (by kernel_rfl) (by kernel_rfl) ?_
      repeat (go_big_quiet_step (fail))
      refine wpQuiet_nil ?_
      rintro _ ⟨nq, rfl⟩
      have a1 := A0 nq
      have HN := Lib.hid (HF.out.trans nq.fr (by simp))
      have HON := Lib.hid (HO.out.keep nq.fr)
      clear A0 X0
      generalize nq.now = w20 at *
      by_cases hys : y = si
      · have HYS := Lib.hid hys
        have t2 : (y == si) = true := by simpa using hys
        clear hys
        go_wp2_with fail
        go_roundw
        case rel =>
          refine ⟨j + 1, o, by go_num, by omega, ?_, HON.out, ?_, by omega, HN.out⟩
          · rw [HTK.out, List.any_append]; simp [HYS.out]
          · rw [HTK.out, HFS.out, if_pos HYS.out, List.append_nil, ← HOE.out]
        case measure => simp [intOf]; omega
      · have HYS := Lib.hid hys
        have t2 : (y == si) = false := by simpa using hys
        clear hys
        go_wp2_with (at_builtin; refine wpList_append_any rfl (.tmp 42) (.tmp 47) 38 3 (.int .i64 0) 1 8 rfl sints_slice sint_info rfl (by decide) _ o.length (allC inC o) rfl (HON.out.lies.keep0 ((Fr.refl [] _).alloc _)) _ 1 (inC y) rfl (lies_row w20 3 (inC y) rfl _ rfl) (inC.one y) (by unfold maxLen; omega) (by omega) ?app)
        case app =>
        intro v9 w9 h1 h2 h3
        have ha := (HON.out.keep ((Fr.refl [] w20).alloc (.cells (inC y).toArray 3)))
        have HA := Lib.hid (OutAt.app ha (by have := HN.out.size; simp at this ⊢; omega) (xs := [y]) (by rw [allC_one]; exact h1) rfl h3)
        have HG := Lib.hid (OutAt.fr ha (HN.out.alloc _) h2)
        clear h1 h2 h3 ha a1
        go_wp2_with fail
        go_roundw
        case rel =>
          refine ⟨j + 1, o ++ [y], by go_num, by omega, ?_, HA.out, ?_, by simp; omega, HG.out⟩
          · rw [HTK.out, List.any_append, HBB.out]
            have : (y == si) = false := by simpa using HYS.out
            simp [this]
          · rw [HTK.out, HFS.out, if_neg HYS.out, ← HOE.out]
        case measure => simp [intOf]; omega
    · have t1 : decide (j < N.length) = false := by simpa using h
      have hjN : N.take j = N := List.take_of_length_le (by omega)
      have HOO : Hid (o = O) := Lib.hid (by rw [HOE.out, hjN]; exact HC1.out)
      have HBO : Hid (B = (J && decide (sr < 9))) := Lib.hid (by rw [HBB.out, hjN]; exact HC2.out)
      have HOI := Lib.hid (out_in HO.out)
      have HWI := Lib.hid (HR7.out.keep0 HF.out)
      obtain ⟨s9, c9, hv9, _⟩ := HO.out.lies.form
      generalize o.length = ol9 at hv9 hol
      subst hv9
      have CI : Hid (Calls Try.prog 13 #[.slice s9 ol9 c9, .slice s4 O.length c4] wr fun e w' => e = .returned (.bool true) ∧ Fr [] wr w') := Lib.hid (by
        have q := HOI.out
        rw [HOO.out] at q
        have := rsi_ints _ _ O O wr q HWI.out.lin HOB.out HOB.out
        rw [show (O == O) = true from by simp] at this
        exact this)
      clear hjN hol
      go_wp2_with (go_at_call 13; refine CI.out.mono ?_; rintro e w30 ⟨rfl, hf⟩; refine go_stop ?_)
      obtain ⟨y0, y1, y2, y3, _⟩ := cells4 (hf.keep (HF.out.keep HB7.out (by simp)) (by simp))
      have HF30 := Lib.hid ((HF7.out.trans HF.out (by simp)).trans hf (by simp))
      clear hf x0 x1 x2 x3
      unfold Stop
      cases J
      · go_wp2_with (go_at_call 18; refine (HE.out _).mono ?_; rintro e w31 ⟨rfl, hf⟩; have HF31 := Lib.hid (HF30.out.trans hf (by simp)); clear hf)
        go_ret
        exact ⟨by rw [HBO.out]; rfl, HF31.out.below (Nat.le_refl _) (by simp)⟩
      · go_wp2_with (go_at_call 18; refine (HE.out _).mono ?_; rintro e w31 ⟨rfl, hf⟩; have HF31 := Lib.hid (HF30.out.trans hf (by simp)); have z1 := hf.cell y1 (by simp); clear hf)
        go_ret
        refine ⟨?_, HF31.out.below (Nat.le_refl _) (by simp)⟩
        rw [HBO.out]
        exact congrArg (fun b => Ending.returned (.bool b)) (show (((true && decide (sr < 9)) == decide (sr < 9)) = true) by simp)

set_option maxRecDepth 100000 in
theorem contract (H : Type) (enc : TypeId × Value → H) (W : World) (base : Nat) (args : Array Value) (ds gs : List (DataW H)) (before : List MemPlace)
    (hval0 : ∀ (j : Nat) t v, Try.f7.params[j]? = some t → args[j]? = some v → Value.okWide Try.prog W .any base t v)
    (hW : DataW.Whole enc Try.prog Try.f7.params.toList Rows.subidxMoreSpec.vars false W args.toList ds gs before) :
    Calls Try.prog 7 args W fun e W' => ∃ v, e = .returned v ∧ Rows.subidxMoreSpec.post enc Try.prog Try.f7 false true false false W args v W' := by
  have hval : ∀ (j : Nat) t v, Try.f7.params[j]? = some t → args[j]? = some v → Value.okWide Try.prog W .any base t v := hval0
  have hW' := hW
  obtain ⟨p, q, hA0, hV, rfl, hfz, hnd⟩ := hW
  have hA : DataW.TrodAll enc Try.prog W 0 (fun _ => true) true Try.f7.params.toList args.toList ds p := hA0
  rw [Try.params7] at hA hval
  obtain ⟨v0, vs0, d0, ds0, p0, q0, hargs, rfl, rfl, h0, r0⟩ := trodAll_cons hA
  obtain ⟨v1, vs1, d1, ds1, p1, q1, rfl, rfl, rfl, h1, r1⟩ := trodAll_cons r0
  obtain ⟨v2, vs2, d2, ds2, p2, q2, rfl, rfl, rfl, h2, r2⟩ := trodAll_cons r1
  obtain ⟨rfl, rfl, rfl⟩ := trodAll_nil r2
  obtain rfl : args = #[v0, v1, v2] := by cases args; simp_all
  obtain ⟨rfl, rfl⟩ := trodVars_none hV
  have k0 := h0
  have lt0 : ∀ x ∈ p0, x.block < W.heap.size := by obtain ⟨m, hm⟩ := k0; exact DataW.trod_lt m _ _ _ hm
  have k1 := h1
  have lt1 : ∀ x ∈ p1, x.block < W.heap.size := by obtain ⟨m, hm⟩ := k1; exact DataW.trod_lt m _ _ _ hm
  have k2 := h2
  have lt2 : ∀ x ∈ p2, x.block < W.heap.size := by obtain ⟨m, hm⟩ := k2; exact DataW.trod_lt m _ _ _ hm
  obtain ⟨l, hl⟩ := open_sdeeds (hval 0 22 v0 rfl rfl) h0
  obtain ⟨s, rfl, ws, _, _, _⟩ := open_sub (hval 1 32 v1 rfl rfl) h1
  obtain ⟨k, rfl, rfl, _, wk⟩ := open_string Try.underlying9 (hval 2 9 v2 rfl rfl) h2
  clear hA0 hval0 hval
  refine (walk v0 l s k W hl ws).mono fun e W' ⟨he, bel⟩ => ?_
  subst he
  exact ⟨_, rfl, _, _, _, [], _, [], hW', trodAll_mk1 (shut_bool Try.underlying4 _), (trodAll_cons_mk (Below.trod laid_prog (by kernel_rfl) (of_decide_eq_true (by kernel_rfl)) k0 bel lt0) (trodAll_cons_mk (Below.trod laid_prog (by kernel_rfl) (of_decide_eq_true (by kernel_rfl)) k1 bel lt1) (trodAll_cons_mk (Below.trod laid_prog (by kernel_rfl) (of_decide_eq_true (by kernel_rfl)) k2 bel lt2) trodAll_mk0))), rfl, bel.frame _, fun h => by cases h⟩

set_option maxRecDepth 100000 in
theorem lifted (os : Os) (started : os.Started) (H : Type) (enc : TypeId × Value → H) :
    ReturnsInHanded {} Try.checked os 7 .any (Rows.subidxMoreSpec.pre6 enc Try.prog Try.f7 Rows.subidxMoreRow.domain false) (Rows.subidxMoreSpec.post enc Try.prog Try.f7 false true false false) := by
  refine returnsInHanded_of_change (C := Try.checked) own_prog started (by kernel_rfl) Try.func7
    (ChangeSpec.witness6 (enc := enc) (C := Try.checked) false ⟨#[], #[.slice none 0 0, .agg #[.int .i64 0, .int .i64 0, .string ⟨#[]⟩, .string ⟨#[]⟩], .string ⟨#[]⟩], []⟩ 8 (by kernel_rfl) (by kernel_rfl) (by kernel_rfl) (by kernel_rfl)) ?_
  intro W base args ds gs before hval hW _ _
  exact contract H enc W base args ds gs before hval hW

theorem proved : Rows.SubidxMoreSaid :=
  OpenClaim.holds_of_wide 7 Try.f7 rfl rfl rfl rfl rfl rfl rfl ⟨rfl, rfl, rfl, rfl, rfl⟩ rfl rfl rfl rfl rfl (by kernel_rfl) Try.func7 (by kernel_rfl)
    (of_decide_eq_true (by kernel_rfl)) (by unfold Func.isWrapper; first | (rw [if_pos (by decide +kernel)]; kernel_rfl) | (rw [if_neg (by decide +kernel)]; exact ⟨rfl, rfl⟩))
    (fun os started H enc _ => lifted os started H enc)

end Go.Proofs.Ytcieokfjkfpajaa.lawSubidxMore
