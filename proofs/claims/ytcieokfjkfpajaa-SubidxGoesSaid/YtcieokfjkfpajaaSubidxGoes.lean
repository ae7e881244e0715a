/- A watch that comes, and goes, leaves all as it was; gone, it goes no more; there, it doesn't come again: for every list of deeds, every watch and key. No condition. -/
import Derived.Test.YtcieokfjkfpajaaSiAwake
import Derived.Test.YtcieokfjkfpajaaSiLaw
import Derived.Deep.DeepCutAuto
namespace Go.Proofs.Ytcieokfjkfpajaa.lawSubidxGoes
open Go.ChangeShapes Go.WideShapes Go.ChangeAt Go.RowKit Go.Deep Go.ChangeMaps
set_option linter.unusedVariables false
set_option linter.unusedSimpArgs false

theorem delL_insL {s : Sb} {L : List Sb} (h : hasId L s.id = false) : delL (insL s L) s.id = L := by
  induction L with
  | nil => simp [insL, delL]
  | cons y r ih =>
    have hy : y.id ≠ s.id := hasId_not h y List.mem_cons_self
    have hr : hasId r s.id = false := by
      cases hh : hasId r s.id with
      | false => rfl
      | true => obtain ⟨z, hz, e⟩ := hasId_iff.1 hh; exact absurd e (hasId_not h z (List.mem_cons_of_mem _ hz))
    have hyr : delL (y :: r) s.id = y :: r := (delE_no h).2
    unfold insL
    split
    · have e1 : delL (s :: y :: r) s.id = delL (y :: r) s.id := by unfold delL; rw [List.filter_cons_of_neg (by simp)]
      rw [e1, hyr]
    · have e1 : delL (y :: insL s r) s.id = y :: delL (insL s r) s.id := by unfold delL; rw [List.filter_cons_of_pos (by simpa using hy)]
      rw [e1, ih hr]
theorem has_insL (s : Sb) (L : List Sb) : hasId (insL s L) s.id = true := hasId_iff.2 ⟨s, (insL_mem s L s).2 (Or.inl rfl), rfl⟩
theorem stab_len (k : Bs) (rev : Int) (L : List Sb) : (stabS k rev L).length ≤ L.length := by
  unfold stabS sortI
  rw [(List.mergeSort_perm _ _).length_eq, List.length_map]
  exact List.length_filter_le _ _
set_option maxRecDepth 100000 in
set_option maxHeartbeats 8000000 in
theorem walk (lv : Value) (l : List Sd) (s : Sb) (k : ByteArray) (w : World) (hl : SdIn w lv l) (hw : wf64 s.id) :
    Calls Try.prog 6 #[lv, s.val, .string k] w fun e w' => e = .returned (.bool true) ∧ Below w.heap.size w w' := by
  obtain ⟨sl, cl, rfl, _, _⟩ := hl.1.form
  have HAW := Lib.hid fun W => si_awake W
  have HM := Lib.hid fun W => si_made s W
  have HRAN := Lib.hid fun W (hW : Fr [] w W) => si_ran _ l W (hl.keep0 hW)
  have HE := Lib.hid fun W => rempty_any s.f s.t W
  obtain ⟨L, hL⟩ : ∃ L, L = runL (l.take 60) := ⟨_, rfl⟩
  rw [← hL] at HRAN
  clear hL hl
  obtain ⟨O, hO⟩ : ∃ O, O = stabS k.toList 9 L := ⟨_, rfl⟩
  have HLL := Lib.hid fun (W : World) p S n (h : Ix W p S n L) => h.len
  have HOL := Lib.hid (show O.length ≤ L.length by rw [hO]; exact stab_len _ _ _)
  have HSTAB := Lib.hid fun n (hn : n ≤ 1000) (W : World) p S (h : Ix W p S n L) => ix_stab h hn k 9
  rw [← hO] at HSTAB
  clear hO
  have HS60 := Lib.hid (HSTAB.out 60 (by omega))
  have HS61 := Lib.hid (HSTAB.out 61 (by omega))
  have HS62 := Lib.hid (HSTAB.out 62 (by omega))
  have HA60 := Lib.hid fun (W : World) p S (h : Ix W p S 60 L) => ix_all h (by omega)
  have HA61 := Lib.hid fun (W : World) p S (h : Ix W p S 61 L) => ix_all h (by omega)
  have HA62 := Lib.hid fun (W : World) p S (h : Ix W p S 62 L) => ix_all h (by omega)
  have HADD := Lib.hid fun (W : World) p S (h : Ix W p S 60 L) => ix_add h (by omega) s hw
  clear HSTAB
  have HWF := Lib.hid hw
  clear hw
  cases he : emptyB s.f.toList s.t.toList
  all_goals rw [he] at HE
  case' true => rw [(addE_empty he).1, (addE_empty he).2] at HADD
  case' false =>
    cases hh : hasId L s.id
    case' true => rw [(addE_busy he hh).1, (addE_busy he hh).2] at HADD
    case' false =>
      rw [(addE_ok he hh).1, (addE_ok he hh).2] at HADD
      have HADD2 := Lib.hid fun (W : World) p S (h : Ix W p S 61 (insL s L)) => ix_add h (by omega) s HWF.out
      rw [(addE_busy he (has_insL s L)).1, (addE_busy he (has_insL s L)).2] at HADD2
      have HDEL1 := Lib.hid fun (W : World) p S (h : Ix W p S 62 (insL s L)) => ix_del h (by omega) s.id HWF.out
      have hd1 : delE (insL s L) s.id = 0 := by simp [delE, has_insL]
      rw [hd1, delL_insL hh] at HDEL1
      have HDEL2 := Lib.hid fun (W : World) p S (h : Ix W p S 62 L) => ix_del h (by omega) s.id HWF.out
      rw [(delE_no hh).1, (delE_no hh).2] at HDEL2
      generalize insL s L = L2 at *
      clear hd1
    all_goals clear hh
  all_goals
    clear he
    obtain ⟨si, sr, sf, st⟩ := s
    unfold Sb.val at *
    dsimp only at *
    have HB1 := Lib.hid (new_block w (Obj.cells #[.int .i64 si, .int .i64 sr, .string sf, .string st] 32))
    have HF1 := Lib.hid ((Fr.refl [] w).alloc (Obj.cells #[.int .i64 si, .int .i64 sr, .string sf, .string st] 32))
    go_enter Try.func6, Try.ntmps6
    go_wp2_with (go_at_call 9; refine (HAW.out _).mono ?_; rintro e w2 ⟨rfl, hf⟩; refine go_stop ?_)
    have HF2 := Lib.hid (HF1.out.trans hf (by simp))
    have HB2 := Lib.hid (hf.keep HB1.out (by simp))
    clear hf HAW
    unfold Stop
    go_wp2_with (go_at_call 17; refine (HRAN.out _ HF2.out).mono ?_; rintro e w3 ⟨p, S0, rfl, hx, hf, hge⟩; refine go_stop ?_)
    have HF3 := Lib.hid (HF2.out.trans hf (by simp))
    have HX3 := Lib.hid hx
    have HB3 := Lib.hid (hf.keep HB2.out (by simp))
    have HG3 : Hid (∀ k ∈ S0, w.heap.size + 1 ≤ k) := Lib.hid (fun k hk => by have := hge k hk; have := lt_of_block HB2.out; omega)
    clear hx hf hge HRAN
    unfold Stop
    go_wp2_with (go_at_call 14; refine (HS60.out _ _ _ HX3.out).mono ?_; rintro e w4 ⟨v4, rfl, ho, hf⟩; refine go_stop ?_)
    obtain ⟨s4, c4, hv4, _⟩ := ho.lies.form
    subst hv4
    have HR4 := Lib.hid (OutAt.far ho inC.len HX3.out.all_lt)
    have HO4 := Lib.hid (out_in ho)
    have HF4 := Lib.hid (HF3.out.trans hf (by simp))
    have HB4 := Lib.hid (hf.keep HB3.out (by simp))
    have HX4 := Lib.hid (HX3.out.keep0 hf)
    have HG4 := Lib.hid HG3.out
    clear hf ho
    unfold Stop
    go_wp2_with (go_at_call 12; refine (HA60.out _ _ _ HX4.out).mono ?_; rintro e w5 ⟨v5, rfl, ho, hf⟩; refine go_stop ?_)
    obtain ⟨s5, c5, hv5, _⟩ := ho.lies.form
    subst hv5
    have HF5 := Lib.hid (HF4.out.trans hf (by simp))
    have HB5 := Lib.hid (hf.keep HB4.out (by simp))
    have HX5 := Lib.hid (HX4.out.keep0 hf)
    have HG5 := Lib.hid HG4.out
    have HR5 := Lib.hid (HR4.out.keep0 hf)
    clear hf ho
    unfold Stop
    obtain ⟨x0, x1, x2, x3, _⟩ := cells4 HB5.out
    go_wp2_with (go_at_call 16; refine (HM.out _).mono ?_; rintro e w6 ⟨rfl, hf⟩; refine go_stop ?_)
    have HF6 := Lib.hid (HF5.out.trans hf (by simp))
    have HB6 := Lib.hid (hf.keep HB5.out (by simp))
    have HX6 := Lib.hid (HX5.out.keep0 hf)
    have HG6 := Lib.hid HG5.out
    have HR6 := Lib.hid (HR5.out.keep0 hf)
    clear hf x0 x1 x2 x3
    unfold Stop
    go_wp2_with (go_at_call 19; refine (HADD.out _ _ _ HX6.out).mono ?_; rintro e w7 ⟨rfl, S1, hx, hf, hg, hs⟩; refine go_stop ?_)
    have HX7 := Lib.hid hx
    have HF7 := Lib.hid (HF6.out.trans hf (fun k hk => Or.inr (by have := HG6.out k hk; omega)))
    have HG7 := Lib.hid (Grow.ge hg (n := w.heap.size + 1) (by have := lt_of_block HB6.out; omega) HG6.out)
    have HB7 := Lib.hid (hf.keep HB6.out (fun hk => by have := HG6.out _ hk; omega))
    have HR7 := Lib.hid (LFar.step HR6.out hf hg)
    clear hx hf hg hs
    unfold Stop
  · -- there is no range without keys, it isn't there
    obtain ⟨x0, x1, x2, x3, _⟩ := cells4 HB7.out
    go_wp2_with (go_at_call 16; refine (HM.out _).mono ?_; rintro e w8 ⟨rfl, hf⟩; refine go_stop ?_)
    have HF8 := Lib.hid (HF7.out.trans hf (by simp))
    have HB8 := Lib.hid (hf.keep HB7.out (by simp))
    have HX8 := Lib.hid (HX7.out.keep0 hf)
    have HG8 := Lib.hid HG7.out
    have HR8 := Lib.hid (HR7.out.keep0 hf)
    clear hf x0 x1 x2 x3
    unfold Stop
    go_wp2_with (go_at_call 19; refine (HADD2.out _ _ _ HX8.out).mono ?_; rintro e w9 ⟨rfl, S2, hx, hf, hg, hs⟩; refine go_stop ?_)
    have HX9 := Lib.hid hx
    have HF9 := Lib.hid (HF8.out.trans hf (fun k hk => Or.inr (by have := HG8.out k hk; omega)))
    have HG9 := Lib.hid (Grow.ge hg (n := w.heap.size + 1) (by have := lt_of_block HB8.out; omega) HG8.out)
    have HB9 := Lib.hid (hf.keep HB8.out (fun hk => by have := HG8.out _ hk; omega))
    have HR9 := Lib.hid (LFar.step HR8.out hf hg)
    clear hx hf hg hs
    unfold Stop
    obtain ⟨x0, x1, x2, x3, _⟩ := cells4 HB9.out
    go_wp2_with (go_at_call 21; refine (HDEL1.out _ _ _ HX9.out).mono ?_; rintro e w10 ⟨rfl, S3, hx, hf, hg, hs⟩; refine go_stop ?_)
    have HX10 := Lib.hid hx
    have HF10 := Lib.hid (HF9.out.trans hf (fun k hk => Or.inr (by have := HG9.out k hk; omega)))
    have HG10 := Lib.hid (Grow.ge hg (n := w.heap.size + 1) (by have := lt_of_block HB9.out; omega) HG9.out)
    have HB10 := Lib.hid (hf.keep HB9.out (fun hk => by have := HG9.out _ hk; omega))
    have HR10 := Lib.hid (LFar.step HR9.out hf hg)
    clear hx hf hg hs x0 x1 x2 x3
    unfold Stop
    obtain ⟨x0, x1, x2, x3, _⟩ := cells4 HB10.out
    go_wp2_with (go_at_call 21; refine (HDEL2.out _ _ _ HX10.out).mono ?_; rintro e w11 ⟨rfl, S4, hx, hf, hg, hs⟩; refine go_stop ?_)
    have HX11 := Lib.hid hx
    have HF11 := Lib.hid (HF10.out.trans hf (fun k hk => Or.inr (by have := HG10.out k hk; omega)))
    have HG11 := Lib.hid (Grow.ge hg (n := w.heap.size + 1) (by have := lt_of_block HB10.out; omega) HG10.out)
    have HB11 := Lib.hid (hf.keep HB10.out (fun hk => by have := HG10.out _ hk; omega))
    have HR11 := Lib.hid (LFar.step HR10.out hf hg)
    clear hx hf hg hs x0 x1 x2 x3
    unfold Stop
    go_wp2_with (go_at_call 14; refine (HS62.out _ _ _ HX11.out).mono ?_; rintro e w12 ⟨v12, rfl, ho, hf⟩; refine go_stop ?_)
    obtain ⟨s12, c12, hv12, _⟩ := ho.lies.form
    subst hv12
    have HO12 := Lib.hid (out_in ho)
    have HF12 := Lib.hid (HF11.out.trans hf (by simp))
    have HB12 := Lib.hid (hf.keep HB11.out (by simp))
    have HX12 := Lib.hid (HX11.out.keep0 hf)
    have HG12 := Lib.hid HG11.out
    have HR12 := Lib.hid (HR11.out.keep0 hf)
    clear hf ho
    unfold Stop
    go_wp2_with (go_at_call 13; refine (rsi_ints _ _ O O _ HO12.out HR12.out.lin (by have := HOL.out; have := HLL.out _ _ _ _ HX12.out; omega) (by have := HOL.out; have := HLL.out _ _ _ _ HX12.out; omega)).mono ?_; rintro e w13 ⟨rfl, hf⟩; refine go_stop ?_)
    have HF13 := Lib.hid (HF12.out.trans hf (by simp))
    have HB13 := Lib.hid (hf.keep HB12.out (by simp))
    have HX13 := Lib.hid (HX12.out.keep0 hf)
    have HG13 := Lib.hid HG12.out
    have HR13 := Lib.hid (HR12.out.keep0 hf)
    clear hf
    unfold Stop
    go_wp2_with (go_at_call 12; refine (HA62.out _ _ _ HX13.out).mono ?_; rintro e w14 ⟨v14, rfl, ho, hf⟩; refine go_stop ?_)
    obtain ⟨s14, c14, hv14, _⟩ := ho.lies.form
    subst hv14
    have HF14 := Lib.hid (HF13.out.trans hf (by simp))
    have HB14 := Lib.hid (hf.keep HB13.out (by simp))
    have HX14 := Lib.hid (HX13.out.keep0 hf)
    have HG14 := Lib.hid HG13.out
    have HR14 := Lib.hid (HR13.out.keep0 hf)
    clear hf ho
    unfold Stop
    go_wp2_with fail
    go_ret
    exact ⟨rfl, HF14.out.below (Nat.le_refl _) (by simp)⟩
  · -- it is there
    obtain ⟨x0, x1, x2, x3, _⟩ := cells4 HB7.out
    go_wp2_with (go_at_call 20; refine (HE.out _).mono ?_; rintro e w8 ⟨rfl, hf⟩; refine go_stop ?_)
    have HF8 := Lib.hid (HF7.out.trans hf (by simp))
    have HB8 := Lib.hid (hf.keep HB7.out (by simp))
    have HX8 := Lib.hid (HX7.out.keep0 hf)
    have HG8 := Lib.hid HG7.out
    have HR8 := Lib.hid (HR7.out.keep0 hf)
    clear hf x0 x1 x2 x3
    unfold Stop
    go_wp2_with (go_at_call 12; refine (HA61.out _ _ _ HX8.out).mono ?_; rintro e w9 ⟨v9, rfl, ho, hf⟩; refine go_stop ?_)
    obtain ⟨s9, c9, hv9, _⟩ := ho.lies.form
    subst hv9
    have HF9 := Lib.hid (HF8.out.trans hf (by simp))
    have HB9 := Lib.hid (hf.keep HB8.out (by simp))
    have HX9 := Lib.hid (HX8.out.keep0 hf)
    have HG9 := Lib.hid HG8.out
    have HR9 := Lib.hid (HR8.out.keep0 hf)
    clear hf ho
    unfold Stop
    go_wp2_with fail
    go_ret
    exact ⟨rfl, HF9.out.below (Nat.le_refl _) (by simp)⟩
  · -- its range is empty
    obtain ⟨x0, x1, x2, x3, _⟩ := cells4 HB7.out
    go_wp2_with (go_at_call 20; refine (HE.out _).mono ?_; rintro e w8 ⟨rfl, hf⟩; refine go_stop ?_)
    have HF8 := Lib.hid (HF7.out.trans hf (by simp))
    have HB8 := Lib.hid (hf.keep HB7.out (by simp))
    have HX8 := Lib.hid (HX7.out.keep0 hf)
    have HG8 := Lib.hid HG7.out
    have HR8 := Lib.hid (HR7.out.keep0 hf)
    clear hf x0 x1 x2 x3
    unfold Stop
    go_wp2_with (go_at_call 12; refine (HA61.out _ _ _ HX8.out).mono ?_; rintro e w9 ⟨v9, rfl, ho, hf⟩; refine go_stop ?_)
    obtain ⟨s9, c9, hv9, _⟩ := ho.lies.form
    subst hv9
    have HF9 := Lib.hid (HF8.out.trans hf (by simp))
    have HB9 := Lib.hid (hf.keep HB8.out (by simp))
    have HX9 := Lib.hid (HX8.out.keep0 hf)
    have HG9 := Lib.hid HG8.out
    have HR9 := Lib.hid (HR8.out.keep0 hf)
    clear hf ho
    unfold Stop
    go_wp2_with fail
    go_ret
    exact ⟨rfl, HF9.out.below (Nat.le_refl _) (by simp)⟩

set_option maxRecDepth 100000 in
theorem contract (H : Type) (enc : TypeId × Value → H) (W : World) (base : Nat) (args : Array Value) (ds gs : List (DataW H)) (before : List MemPlace)
    (hval0 : ∀ (j : Nat) t v, Try.f6.params[j]? = some t → args[j]? = some v → Value.okWide Try.prog W .any base t v)
    (hW : DataW.Whole enc Try.prog Try.f6.params.toList Rows.subidxGoesSpec.vars false W args.toList ds gs before) :
    Calls Try.prog 6 args W fun e W' => ∃ v, e = .returned v ∧ Rows.subidxGoesSpec.post enc Try.prog Try.f6 false true false false W args v W' := by
  have hval : ∀ (j : Nat) t v, Try.f6.params[j]? = some t → args[j]? = some v → Value.okWide Try.prog W .any base t v := hval0
  have hW' := hW
  obtain ⟨p, q, hA0, hV, rfl, hfz, hnd⟩ := hW
  have hA : DataW.TrodAll enc Try.prog W 0 (fun _ => true) true Try.f6.params.toList args.toList ds p := hA0
  rw [Try.params6] at hA hval
  obtain ⟨v0, vs0, d0, ds0, p0, q0, hargs, rfl, rfl, h0, r0⟩ := trodAll_cons hA
  obtain ⟨v1, vs1, d1, ds1, p1, q1, rfl, rfl, rfl, h1, r1⟩ := trodAll_cons r0
  obtain ⟨v2, vs2, d2, ds2, p2, q2, rfl, rfl, rfl, h2, r2⟩ := trodAll_cons r1
  obtain ⟨rfl, rfl, rfl⟩ := trodAll_nil r2
  obtain rfl : args = #[v0, v1, v2] := by cases args; simp_all
  obtain ⟨rfl, rfl⟩ := trodVars_none hV
  have k0 := h0
  have lt0 : ∀ x ∈ p0, x.block < W.heap.size := by obtain ⟨m, hm⟩ := k0; exact DataW.trod_lt m _ _ _ hm
  have k1 := h1
  have lt1 : ∀ x ∈ p1, x.block < W.heap.size := by obtain ⟨m, hm⟩ := k1; exact DataW.trod_lt m _ _ _ hm
  have k2 := h2
  have lt2 : ∀ x ∈ p2, x.block < W.heap.size := by obtain ⟨m, hm⟩ := k2; exact DataW.trod_lt m _ _ _ hm
  obtain ⟨l, hl⟩ := open_sdeeds (hval 0 22 v0 rfl rfl) h0
  obtain ⟨s, rfl, ws, _, _, _⟩ := open_sub (hval 1 32 v1 rfl rfl) h1
  obtain ⟨k, rfl, rfl, _, wk⟩ := open_string Try.underlying9 (hval 2 9 v2 rfl rfl) h2
  clear hA0 hval0 hval
  refine (walk v0 l s k W hl ws).mono fun e W' ⟨he, bel⟩ => ?_
  subst he
  exact ⟨_, rfl, _, _, _, [], _, [], hW', trodAll_mk1 (shut_bool Try.underlying4 _), (trodAll_cons_mk (Below.trod laid_prog (by kernel_rfl) (of_decide_eq_true (by kernel_rfl)) k0 bel lt0) (trodAll_cons_mk (Below.trod laid_prog (by kernel_rfl) (of_decide_eq_true (by kernel_rfl)) k1 bel lt1) (trodAll_cons_mk (Below.trod laid_prog (by kernel_rfl) (of_decide_eq_true (by kernel_rfl)) k2 bel lt2) trodAll_mk0))), rfl, bel.frame _, fun h => by cases h⟩

set_option maxRecDepth 100000 in
theorem lifted (os : Os) (started : os.Started) (H : Type) (enc : TypeId × Value → H) :
    ReturnsInHanded {} Try.checked os 6 .any (Rows.subidxGoesSpec.pre6 enc Try.prog Try.f6 Rows.subidxGoesRow.domain false) (Rows.subidxGoesSpec.post enc Try.prog Try.f6 false true false false) := by
  refine returnsInHanded_of_change (C := Try.checked) own_prog started (by kernel_rfl) Try.func6
    (ChangeSpec.witness6 (enc := enc) (C := Try.checked) false ⟨#[], #[.slice none 0 0, .agg #[.int .i64 0, .int .i64 0, .string ⟨#[]⟩, .string ⟨#[]⟩], .string ⟨#[]⟩], []⟩ 8 (by kernel_rfl) (by kernel_rfl) (by kernel_rfl) (by kernel_rfl)) ?_
  intro W base args ds gs before hval hW _ _
  exact contract H enc W base args ds gs before hval hW

theorem proved : Rows.SubidxGoesSaid :=
  OpenClaim.holds_of_wide 6 Try.f6 rfl rfl rfl rfl rfl rfl rfl ⟨rfl, rfl, rfl, rfl, rfl⟩ rfl rfl rfl rfl rfl (by kernel_rfl) Try.func6 (by kernel_rfl)
    (of_decide_eq_true (by kernel_rfl)) (by unfold Func.isWrapper; first | (rw [if_pos (by decide +kernel)]; kernel_rfl) | (rw [if_neg (by decide +kernel)]; exact ⟨rfl, rfl⟩))
    (fun os started H enc _ => lifted os started H enc)

end Go.Proofs.Ytcieokfjkfpajaa.lawSubidxGoes
