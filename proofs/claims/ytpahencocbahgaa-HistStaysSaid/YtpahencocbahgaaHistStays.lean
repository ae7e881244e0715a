/- What there is at a revision stays so, whatever is done later, until it is below the horizon; then it is told that it is old: for every two lists of deeds and every revision. No condition. -/
import Derived.Test.YtpahencocbahgaaHistAwake
import Derived.Test.YtpahencocbahgaaHistLaw
namespace Go.Proofs.Ytpahencocbahgaa.lawHistStays
open Go.ChangeShapes Go.WideShapes Go.ChangeAt Go.RowKit Go.Deep Go.ChangeMaps
set_option linter.unusedVariables false
set_option linter.unusedSimpArgs false

set_option maxRecDepth 100000 in
set_option maxHeartbeats 4000000 in
theorem walk (lv mv : Value) (l m : List Dd) (rev : Int) (w : World) (hl : DdIn w lv l) (hm : DdIn w mv m) (hrev : (Lit.int .u8 rev).wf = true) :
    Calls Try.prog 3 #[lv, mv, .int .u8 rev] w fun e w' => e = .returned (.bool true) ∧ Below w.heap.size w w' := by
  have hr8 : 0 ≤ rev ∧ rev ≤ 255 := by simpa [Lit.wf, IntKind.min, IntKind.max, IntKind.signed, IntKind.bits] using hrev
  clear hrev
  have HL := Lib.hid hl
  have HM := Lib.hid hm
  have HMW := Lib.hid hm
  obtain ⟨s1, c1, rfl, _, _⟩ := hl.form
  obtain ⟨s2, c2, rfl, lm, mm⟩ := hm.form
  unfold maxLen at mm
  clear hl hm
  go_enter Try.func3, Try.ntmps3
  go_wp2_with (first
    | (go_at_call 7; refine (hist_awake _).mono ?_; rintro e w1 ⟨rfl, h1⟩; have HF := Lib.hid h1; replace HL := Lib.hid (HL.out.keep0 h1); replace HM := Lib.hid (HM.out.keep0 h1); clear h1)
    | (go_at_call 8; refine (hfew_any _ l _ HL.out).mono ?_; rintro e wn ⟨b, rfl, hb, rfl⟩; refine go_stop ?_))
  unfold Stop
  cases b
  · clear hb
    go_wp2_with fail
    go_ret
    exact ⟨rfl, HF.out.below (Nat.le_refl _) (by simp)⟩
  · obtain ⟨h30, h8⟩ := hb.1 rfl
    have H8 := Lib.hid h8
    clear hb h8
    go_wp2_with (go_at_call 8; refine (hfew_any _ m _ HM.out).mono ?_; rintro e wn ⟨b, rfl, hb, rfl⟩; refine go_stop ?_)
    unfold Stop
    cases b
    · clear hb
      go_wp2_with fail
      go_ret
      exact ⟨rfl, HF.out.below (Nat.le_refl _) (by simp)⟩
    obtain ⟨m30, m8⟩ := hb.1 rfl
    have M8 := Lib.hid m8
    clear hb m8
    go_wp2_with (go_at_call 9; refine (hran_any _ l _ HL.out h30 H8.out).mono ?_; rintro e w2 ⟨p, S, rfl, h1, h2, h3⟩; refine go_stop ?_)
    unfold Stop
    have hok := runH_ok l H8.out l.length (Nat.le_refl _)
    rw [List.take_length] at hok
    obtain ⟨H, hH⟩ : ∃ H, H = runH l := ⟨_, rfl⟩
    rw [← hH] at hok h1
    replace hok := hok.mono h30
    have OK := Lib.hid hok
    have hrl := hok.rev
    have HS := Lib.hid h1
    have HG : Hid (∀ k ∈ S, w.heap.size ≤ k) := Lib.hid (fun k hk => Nat.le_trans HF.out.size (h3 k hk))
    have HF2 := Lib.hid (HF.out.trans h2 (by simp))
    replace HM := Lib.hid (HM.out.keep0 h2)
    clear h1 h2 h3 hok hH HF HL
    have hwr : IntKind.i64.wrap ((H.rows.length : Int) + 1) = (H.rows.length : Int) + 1 := IntWalk.i64_in _ ⟨by omega, by omega⟩
    have hne : ¬ ((H.rows.length : Int) + 1 = 0) := by omega
    have hconv : IntKind.i64.wrap rev = rev := IntWalk.i64_in _ ⟨by omega, by omega⟩
    go_wp2_with (first
      | (go_at_call 10; refine (hist_rev HS.out).mono ?_; rintro e wn ⟨rfl, rfl⟩)
      | (go_at_call 11; refine go_stop ?_))
    unfold Stop
    obtain ⟨n, hn, hnl⟩ : ∃ n : Nat, rev % ((H.rows.length : Int) + 1) = (n : Int) ∧ n ≤ H.rows.length := by
      have h1 := Int.emod_nonneg rev (b := (H.rows.length : Int) + 1) (by omega)
      have h2 := Int.emod_lt_of_pos rev (b := (H.rows.length : Int) + 1) (by omega)
      exact ⟨(rev % ((H.rows.length : Int) + 1)).toNat, by omega, by omega⟩
    rw [hn]
    clear hn hconv hne hwr hr8
    refine (hist_at (H := H) (n := 30) _ _ _ HS.out OK.out (by decide)).mono ?_
    rintro e w3 ⟨v3, rfl, h1, h2, h3⟩
    have WAS := Lib.hid h1
    obtain ⟨s3, c3', rfl, _, _⟩ := h1.form
    replace HS := Lib.hid (HS.out.keep h3 (by simp))
    replace HF2 := Lib.hid (HF2.out.trans h3 (by simp))
    clear h1 h2 h3 HM
    by_cases hz : H.hor ≤ n
    · have e1 := (at_ok (H := H) (n := n) hz hnl).1
      go_wp2_with fail
      go_loopw [12] (fun i wr => ∃ (j : Nat) (S : List Nat) (Hj : HA), i = .int .i64 j ∧ j ≤ m.length ∧ Hs wr p S Hj ∧ HOk Hj (30 + j) ∧ HLater H Hj ∧ LFar S Kv.cells 3 wr (.slice s3 (H.atL n ⟨#[]⟩ ⟨#[]⟩).length c3') (H.atL n ⟨#[]⟩ ⟨#[]⟩) ∧ (∀ k ∈ S, w.heap.size ≤ k) ∧ Fr [] w wr) (fun i _ => m.length - (intOf i).toNat)
      case atStart => exact ⟨0, S, H, rfl, Nat.zero_le _, HS.out, OK.out, HLater.refl H, WAS.out, HG.out, HF2.out⟩
      case round =>
        clear HS WAS HG HF2
        obtain ⟨j, S, Hj, rfl, hj, hs, hok, hlat, hwas, hg, hf⟩ := hrel
        have HS := Lib.hid hs
        have OKJ := Lib.hid hok
        have LAT := Lib.hid hlat
        have WAS := Lib.hid hwas
        have HG := Lib.hid hg
        have HF := Lib.hid hf
        clear hs hok hlat hwas hg hf
        by_cases h : j < m.length
        · have t1 : decide ((j : Int) < (m.length : Int)) = true := by simp; omega
          obtain ⟨d, hd⟩ : ∃ d, m[j]? = some d := ⟨_, List.getElem?_eq_getElem h⟩
          obtain ⟨g, off, d1, e1, hg, l1, k1⟩ := DdIn.here HMW.out (by omega)
          cases e1
          obtain ⟨p0, p1, p2, po⟩ := k1 j d hd
          replace p0 := HF.out.cell p0 (by simp)
          replace p1 := HF.out.cell p1 (by simp)
          replace p2 := HF.out.cell p2 (by simp)
          have HO := Lib.hid (LFar.of_oldw po HF.out HG.out)
          have HO8 := Lib.hid (M8.out d (List.mem_of_getElem? hd))
          obtain ⟨su, cu, hu, _, _⟩ := po.form
          rw [hu] at p1
          rw [hu] at HO
          clear hd k1 po hu
          go_wp2_with (go_at_call 12; refine (hdo_any (n := 30 + j) HS.out OKJ.out (by omega) _ [] 0 [] (by simp) (RowsF.nil _ _) (XOk.nil _) d.kind d.rev _ d.ops HO.out HO8.out).mono ?_; rintro e w4 ⟨rv2, rows2, hor2, b2, S2, rfl, h1, h2, h3, h4, h5⟩; refine go_stop ?_)
          unfold Stop
          have OK2 := Lib.hid (stepH_ok OKJ.out (kind := d.kind) (rev := d.rev) HO8.out)
          have LAT2 := Lib.hid (LAT.out.trans (stepH_later Hj d.kind d.rev d.ops))
          replace HS := Lib.hid h3
          replace WAS := Lib.hid (WAS.out.step h4 h5)
          have HFN := Lib.hid (HF.out.trans h4 (fun k hk => Or.inr (HG.out k hk)))
          replace HG := Lib.hid (h5.ge HF.out.size HG.out)
          obtain ⟨H2, hH2⟩ : ∃ H2, H2 = stepH Hj d.kind d.ops d.rev := ⟨_, rfl⟩
          rw [← hH2] at OK2 LAT2 HS
          replace HF := HFN
          clear h1 h2 h3 h4 h5 hH2 HFN p0 p1 p2 HO
          by_cases hc : n < H2.hor
          · have c1 : decide ((n : Int) < (H2.hor : Int)) = true := by simp; omega
            have c2 : decide ((H2.hor : Int) ≤ (n : Int)) = false := by simp; omega
            have e5 := at_old hc
            go_wp2_with (first
              | (go_at_call 11; refine (hist_at (H := H2) (n := 30 + j + 1) _ _ _ HS.out OK2.out (by omega)).mono ?_; rintro e w5 ⟨v5, rfl, h1, h2, h3⟩; replace WAS := Lib.hid (WAS.out.keep0 h3); obtain ⟨s5, c5', rfl, _, _⟩ := h1.form; replace HS := Lib.hid (HS.out.keep h3 (by simp)); replace HF := Lib.hid (HF.out.trans h3 (by simp)); clear h1 h2 h3)
              | (go_at_call 13; refine (hist_hor HS.out).mono ?_; rintro e wn ⟨rfl, rfl⟩))
            go_roundw
            case rel => exact ⟨j + 1, S2, H2, by go_num, by omega, HS.out, OK2.out, LAT2.out, WAS.out, HG.out, HF.out⟩
            case measure => simp [intOf]; omega
          · have c1 : decide ((n : Int) < (H2.hor : Int)) = false := by simp; omega
            have c2 : decide ((H2.hor : Int) ≤ (n : Int)) = true := by simp; omega
            have hl1 := LAT2.out.hor
            have hl2 := LAT2.out.len
            have AT := Lib.hid (at_ok (H := H) (n := n) (by omega) hnl)
            have AT2 := Lib.hid (at_ok (H := H2) (n := n) (by omega) (by omega))
            have MAP := Lib.hid (LAT2.out.map n hnl)
            have hsame : sameB kvB (H2.atL n ⟨#[]⟩ ⟨#[]⟩) (H.atL n ⟨#[]⟩ ⟨#[]⟩) = true := by rw [AT.out.2, AT2.out.2, MAP.out]; exact (sameB_eq kvB_eq).2 rfl
            have SAME := Lib.hid hsame
            clear hsame
            have e2 := AT2.out.1
            go_wp2_with (first
              | (go_at_call 11; refine (hist_at (H := H2) (n := 30 + j + 1) _ _ _ HS.out OK2.out (by omega)).mono ?_; rintro e w5 ⟨v5, rfl, h1, h2, h3⟩; replace WAS := Lib.hid (WAS.out.keep0 h3); have NOW := Lib.hid h1.lin; obtain ⟨s5, c5', rfl, _, _⟩ := h1.form; replace HS := Lib.hid (HS.out.keep h3 (by simp)); replace HF := Lib.hid (HF.out.trans h3 (by simp)); clear h1 h2 h3)
              | (go_at_call 13; refine (hist_hor HS.out).mono ?_; rintro e wn ⟨rfl, rfl⟩)
              | (go_at_call 14; refine (rkvs_any _ _ _ _ _ NOW.out WAS.out.lin).mono ?_; rintro e w6 ⟨rfl, h2⟩; rw [SAME.out]; replace WAS := Lib.hid (WAS.out.keep0 h2); replace HF := Lib.hid (HF.out.trans h2 (by simp)); replace HS := Lib.hid (HS.out.keep h2 (by simp)); clear h2))
            go_roundw
            case rel => exact ⟨j + 1, S2, H2, by go_num, by omega, HS.out, OK2.out, LAT2.out, WAS.out, HG.out, HF.out⟩
            case measure => simp [intOf]; omega
        · have t1 : decide ((j : Int) < (m.length : Int)) = false := by simp; omega
          go_wp2_with fail
          go_ret
          exact ⟨rfl, HF.out.below (Nat.le_refl _) (by simp)⟩
    · have e1 := at_old (H := H) (n := n) (by omega)
      go_wp2_with fail
      go_loopw [12] (fun i wr => ∃ (j : Nat) (S : List Nat) (Hj : HA), i = .int .i64 j ∧ j ≤ m.length ∧ Hs wr p S Hj ∧ HOk Hj (30 + j) ∧ HLater H Hj ∧ LFar S Kv.cells 3 wr (.slice s3 (H.atL n ⟨#[]⟩ ⟨#[]⟩).length c3') (H.atL n ⟨#[]⟩ ⟨#[]⟩) ∧ (∀ k ∈ S, w.heap.size ≤ k) ∧ Fr [] w wr) (fun i _ => m.length - (intOf i).toNat)
      case atStart => exact ⟨0, S, H, rfl, Nat.zero_le _, HS.out, OK.out, HLater.refl H, WAS.out, HG.out, HF2.out⟩
      case round =>
        clear HS WAS HG HF2
        obtain ⟨j, S, Hj, rfl, hj, hs, hok, hlat, hwas, hg, hf⟩ := hrel
        have HS := Lib.hid hs
        have OKJ := Lib.hid hok
        have LAT := Lib.hid hlat
        have WAS := Lib.hid hwas
        have HG := Lib.hid hg
        have HF := Lib.hid hf
        clear hs hok hlat hwas hg hf
        by_cases h : j < m.length
        · have t1 : decide ((j : Int) < (m.length : Int)) = true := by simp; omega
          obtain ⟨d, hd⟩ : ∃ d, m[j]? = some d := ⟨_, List.getElem?_eq_getElem h⟩
          obtain ⟨g, off, d1, e1, hg, l1, k1⟩ := DdIn.here HMW.out (by omega)
          cases e1
          obtain ⟨p0, p1, p2, po⟩ := k1 j d hd
          replace p0 := HF.out.cell p0 (by simp)
          replace p1 := HF.out.cell p1 (by simp)
          replace p2 := HF.out.cell p2 (by simp)
          have HO := Lib.hid (LFar.of_oldw po HF.out HG.out)
          have HO8 := Lib.hid (M8.out d (List.mem_of_getElem? hd))
          obtain ⟨su, cu, hu, _, _⟩ := po.form
          rw [hu] at p1
          rw [hu] at HO
          clear hd k1 po hu
          go_wp2_with (go_at_call 12; refine (hdo_any (n := 30 + j) HS.out OKJ.out (by omega) _ [] 0 [] (by simp) (RowsF.nil _ _) (XOk.nil _) d.kind d.rev _ d.ops HO.out HO8.out).mono ?_; rintro e w4 ⟨rv2, rows2, hor2, b2, S2, rfl, h1, h2, h3, h4, h5⟩; refine go_stop ?_)
          unfold Stop
          have OK2 := Lib.hid (stepH_ok OKJ.out (kind := d.kind) (rev := d.rev) HO8.out)
          have LAT2 := Lib.hid (LAT.out.trans (stepH_later Hj d.kind d.rev d.ops))
          replace HS := Lib.hid h3
          replace WAS := Lib.hid (WAS.out.step h4 h5)
          have HFN := Lib.hid (HF.out.trans h4 (fun k hk => Or.inr (HG.out k hk)))
          replace HG := Lib.hid (h5.ge HF.out.size HG.out)
          obtain ⟨H2, hH2⟩ : ∃ H2, H2 = stepH Hj d.kind d.ops d.rev := ⟨_, rfl⟩
          rw [← hH2] at OK2 LAT2 HS
          replace HF := HFN
          clear h1 h2 h3 h4 h5 hH2 HFN p0 p1 p2 HO
          by_cases hc : n < H2.hor
          · have c1 : decide ((n : Int) < (H2.hor : Int)) = true := by simp; omega
            have c2 : decide ((H2.hor : Int) ≤ (n : Int)) = false := by simp; omega
            have e5 := at_old hc
            go_wp2_with (first
              | (go_at_call 11; refine (hist_at (H := H2) (n := 30 + j + 1) _ _ _ HS.out OK2.out (by omega)).mono ?_; rintro e w5 ⟨v5, rfl, h1, h2, h3⟩; replace WAS := Lib.hid (WAS.out.keep0 h3); obtain ⟨s5, c5', rfl, _, _⟩ := h1.form; replace HS := Lib.hid (HS.out.keep h3 (by simp)); replace HF := Lib.hid (HF.out.trans h3 (by simp)); clear h1 h2 h3)
              | (go_at_call 13; refine (hist_hor HS.out).mono ?_; rintro e wn ⟨rfl, rfl⟩))
            go_roundw
            case rel => exact ⟨j + 1, S2, H2, by go_num, by omega, HS.out, OK2.out, LAT2.out, WAS.out, HG.out, HF.out⟩
            case measure => simp [intOf]; omega
          · have hl1 := LAT2.out.hor
            omega
        · have t1 : decide ((j : Int) < (m.length : Int)) = false := by simp; omega
          go_wp2_with fail
          go_ret
          exact ⟨rfl, HF.out.below (Nat.le_refl _) (by simp)⟩

set_option maxRecDepth 100000 in
theorem contract (H : Type) (enc : TypeId × Value → H) (W : World) (base : Nat) (args : Array Value) (ds gs : List (DataW H)) (before : List MemPlace)
    (hval0 : ∀ (j : Nat) t v, Try.f3.params[j]? = some t → args[j]? = some v → Value.okWide Try.prog W .any base t v)
    (hW : DataW.Whole enc Try.prog Try.f3.params.toList Rows.histStaysSpec.vars false W args.toList ds gs before) :
    Calls Try.prog 3 args W fun e W' => ∃ v, e = .returned v ∧ Rows.histStaysSpec.post enc Try.prog Try.f3 false true false false W args v W' := by
  have hval : ∀ (j : Nat) t v, Try.f3.params[j]? = some t → args[j]? = some v → Value.okWide Try.prog W .any base t v := hval0
  have hW' := hW
  obtain ⟨p, q, hA0, hV, rfl, hfz, hnd⟩ := hW
  have hA : DataW.TrodAll enc Try.prog W 0 (fun _ => true) true Try.f3.params.toList args.toList ds p := hA0
  rw [Try.params3] at hA hval
  obtain ⟨v0, vs0, d0, ds0, p0, q0, hargs, rfl, rfl, h0, r0⟩ := trodAll_cons hA
  obtain ⟨v1, vs1, d1, ds1, p1, q1, rfl, rfl, rfl, h1, r1⟩ := trodAll_cons r0
  obtain ⟨v2, vs2, d2, ds2, p2, q2, rfl, rfl, rfl, h2, r2⟩ := trodAll_cons r1
  obtain ⟨rfl, rfl, rfl⟩ := trodAll_nil r2
  obtain rfl : args = #[v0, v1, v2] := by cases args; simp_all
  obtain ⟨rfl, rfl⟩ := trodVars_none hV
  have k0 := h0
  have lt0 : ∀ x ∈ p0, x.block < W.heap.size := by obtain ⟨m, hm⟩ := k0; exact DataW.trod_lt m _ _ _ hm
  have k1 := h1
  have lt1 : ∀ x ∈ p1, x.block < W.heap.size := by obtain ⟨m, hm⟩ := k1; exact DataW.trod_lt m _ _ _ hm
  have k2 := h2
  have lt2 : ∀ x ∈ p2, x.block < W.heap.size := by obtain ⟨m, hm⟩ := k2; exact DataW.trod_lt m _ _ _ hm
  obtain ⟨l, hl⟩ := open_deeds (hval 0 22 v0 rfl rfl) h0
  obtain ⟨m, hm⟩ := open_deeds (hval 1 22 v1 rfl rfl) h1
  obtain ⟨rev, rfl, _, _, wrev⟩ := open_int Try.underlying5 (hval 2 5 v2 rfl rfl) h2
  clear hA0 hval0 hval
  refine (walk v0 v1 l m rev W hl hm wrev).mono fun e W' ⟨he, bel⟩ => ?_
  subst he
  exact ⟨_, rfl, _, _, _, [], _, [], hW', trodAll_mk1 (shut_bool Try.underlying4 _), (trodAll_cons_mk (Below.trod laid_prog (by kernel_rfl) (of_decide_eq_true (by kernel_rfl)) k0 bel lt0) (trodAll_cons_mk (Below.trod laid_prog (by kernel_rfl) (of_decide_eq_true (by kernel_rfl)) k1 bel lt1) (trodAll_cons_mk (Below.trod laid_prog (by kernel_rfl) (of_decide_eq_true (by kernel_rfl)) k2 bel lt2) trodAll_mk0))), rfl, bel.frame _, fun h => by cases h⟩

set_option maxRecDepth 100000 in
theorem lifted (os : Os) (started : os.Started) (H : Type) (enc : TypeId × Value → H) :
    ReturnsInHanded {} Try.checked os 3 .any (Rows.histStaysSpec.pre6 enc Try.prog Try.f3 Rows.histStaysRow.domain false) (Rows.histStaysSpec.post enc Try.prog Try.f3 false true false false) := by
  refine returnsInHanded_of_change (C := Try.checked) own_prog started (by kernel_rfl) Try.func3
    (ChangeSpec.witness6 (enc := enc) (C := Try.checked) false ⟨#[], #[.slice none 0 0, .slice none 0 0, .int .u8 0], []⟩ 8 (by kernel_rfl) (by kernel_rfl) (by kernel_rfl) (by kernel_rfl)) ?_
  intro W base args ds gs before hval hW _ _
  exact contract H enc W base args ds gs before hval hW

theorem proved : Rows.HistStaysSaid :=
  OpenClaim.holds_of_wide 3 Try.f3 rfl rfl rfl rfl rfl rfl rfl ⟨rfl, rfl, rfl, rfl, rfl⟩ rfl rfl rfl rfl rfl (by kernel_rfl) Try.func3 (by kernel_rfl)
    (of_decide_eq_true (by kernel_rfl)) (by unfold Func.isWrapper; first | (rw [if_pos (by decide +kernel)]; kernel_rfl) | (rw [if_neg (by decide +kernel)]; exact ⟨rfl, rfl⟩))
    (fun os started H enc _ => lifted os started H enc)

end Go.Proofs.Ytpahencocbahgaa.lawHistStays
