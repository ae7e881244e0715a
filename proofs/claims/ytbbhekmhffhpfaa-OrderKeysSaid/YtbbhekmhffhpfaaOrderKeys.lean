/- Calls, 12 at most, fit a set of 20 keys at most just if those of each key do: for every set and every list of calls. No condition. -/
import Derived.Test.YtbbhekmhffhpfaaOrAw
import Derived.Test.YtbbhekmhffhpfaaOrRun
import Derived.Test.YtbbhekmhffhpfaaOrLaw
namespace Go.Proofs.Ytbbhekmhffhpfaa.lawOrderKeys
open Go.ChangeShapes Go.WideShapes Go.ChangeAt Go.RowKit Go.Deep Go.ChangeMaps
set_option linter.unusedVariables false
set_option linter.unusedSimpArgs false

/-- whether the calls of each key fit, of the keys of the first j -/
noncomputable def keysB (first : List ByteArray) (l : List Ca) (j : Nat) : Bool := (l.take j).all (fun c => fitsB first (ofKey c.key l))
theorem keysB_zero (first : List ByteArray) (l : List Ca) : keysB first l 0 = true := rfl
theorem keysB_step {first : List ByteArray} {l : List Ca} {j : Nat} {c : Ca} (hc : l[j]? = some c) : keysB first l (j + 1) = (keysB first l j && fitsB first (ofKey c.key l)) := by
  unfold keysB
  rw [take_snocR hc, List.all_append]
  simp
theorem keysB_all {first : List ByteArray} {l : List Ca} (h12 : l.length ≤ 12) : keysB first l l.length = fitsB first l := by
  unfold keysB
  rw [List.take_length]
  by_cases h : fits first l
  · rw [fitsB_true.2 h, List.all_eq_true]
    exact fun c hc => fitsB_true.2 ((fits_keys h12).1 h c hc)
  · rw [fitsB_false.2 h, ← Bool.not_eq_true, List.all_eq_true]
    exact fun k => h ((fits_keys h12).2 fun c hc => fitsB_true.1 (k c hc))
theorem ofKey_step {l : List Ca} {k : Nat} {d : Ca} {key : ByteArray} (hd : l[k]? = some d) : ofKey key (l.take (k + 1)) = if d.key = key then ofKey key (l.take k) ++ [d] else ofKey key (l.take k) := by
  unfold ofKey
  rw [take_snocR hd, List.filter_append]
  by_cases h : d.key = key
  · rw [if_pos h, List.filter_cons_of_pos (by simpa using h)]; rfl
  · rw [if_neg h, List.filter_cons_of_neg (by simpa using h)]; simp
set_option maxRecDepth 100000 in
set_option maxHeartbeats 4000000 in
theorem walk (fv lv : Value) (first : List ByteArray) (l : List Ca) (w : World) (hf : SsIn w fv first) (hl : CaIn w lv l) :
    Calls Try.prog 5 #[fv, lv] w fun e w' => e = .returned (.bool true) ∧ Below w.heap.size w w' := by
  obtain ⟨fs, fc, rfl, fa, fb⟩ := LIn.form hf
  obtain ⟨ls, lc, rfl, la, lb⟩ := LIn.form hl
  unfold maxLen at fb lb
  have HF := Lib.hid hf
  have HL := Lib.hid hl
  clear hf hl
  obtain ⟨SK, hSK⟩ : ∃ b, b = (decide ((20 : Int) < (first.length : Int)) || decide ((12 : Int) < (l.length : Int))) := ⟨_, rfl⟩
  have HSK := Lib.hid hSK
  clear hSK
  go_enter Try.func5, Try.ntmps5
  go_wp2_with (go_at_call 9; refine (or_awake _).mono ?_; rintro e w1 ⟨rfl, hf⟩; refine go_stop ?_)
  unfold Stop
  have HF1 := Lib.hid hf
  clear hf
  go_upto_region 2 with fail
  go_cut [19] (fun v wx => v = .bool SK ∧ wx = w1)
  case first =>
    by_cases g1 : decide ((20 : Int) < (first.length : Int)) = true
    · go_wp2_with fail
      go_meet
      exact ⟨by rw [HSK.out, g1]; rfl, rfl⟩
    · replace g1 : decide ((20 : Int) < (first.length : Int)) = false := by simpa using g1
      go_wp2_with fail
      go_meet
      exact ⟨by rw [HSK.out, g1]; rfl, rfl⟩
  case rest =>
  obtain ⟨rfl, rfl⟩ := hcut
  obtain ⟨w1, hw1⟩ : ∃ x, x = wc := ⟨_, rfl⟩
  subst hw1
  cases SK
  · have hb : first.length ≤ 20 ∧ l.length ≤ 12 := by
      have h := HSK.out.symm
      simp only [Bool.or_eq_false_iff, decide_eq_false_iff_not] at h
      omega
    obtain ⟨hb1, hb2⟩ := hb
    go_wp2_with (go_at_call 10; refine (or_made _ l _ (LIn.keep0 HL.out HF1.out) (by omega)).mono ?_; rintro e w2 ⟨v, rfl, ho, hf⟩; refine go_stop ?_)
    unfold Stop
    have HF2 := Lib.hid (Fr.trans (T := []) HF1.out hf (by simp))
    obtain ⟨s3, c3, rfl, lb3, mb3⟩ := LAt.form ho.lies
    unfold maxLen at mb3
    have HX : Hid (CaIn w2 (.slice s3 l.length c3) l) := Lib.hid (LAt.read ho.lies Ca.clen)
    have HFI : Hid (SsIn w2 (.slice fs first.length fc) first) := Lib.hid (LIn.keep0 HF.out HF2.out)
    clear ho hf
    go_wp2_with fail
    go_loopw [7, 8] (fun f i wr => ∃ (j : Nat), i = .int .i64 j ∧ j ≤ l.length ∧ f = .bool (keysB first l j) ∧ Fr [] w2 wr) (fun _ i _ => l.length - (intOf i).toNat)
    case atStart => exact ⟨0, rfl, Nat.zero_le _, rfl, Fr.refl _ _⟩
    case round =>
      obtain ⟨j, rfl, hj, rfl, hf⟩ := hrel
      have HFJ := Lib.hid hf
      clear hf
      obtain ⟨F, hF⟩ : ∃ b, b = keysB first l j := ⟨_, rfl⟩
      rw [← hF]
      have HFF := Lib.hid hF
      clear hF
      obtain ⟨wO, hwO⟩ : ∃ x, x = wr := ⟨_, rfl⟩
      subst hwO
      by_cases h : j < l.length
      · obtain ⟨c, hc⟩ : ∃ c, l[j]? = some c := ⟨_, List.getElem?_eq_getElem h⟩
        have t1 : decide (j < l.length) = true := by simpa using h
        have HC := Lib.hid hc
        clear hc
        go_wp2_with fail
        go_loopw [9, 10] (fun v i wr => ∃ (k : Nat) (o : List Ca), i = .int .i64 k ∧ k ≤ l.length ∧ CaOut wO wr v o ∧ o = ofKey c.key (l.take k) ∧ Fr [] wO wr) (fun _ i _ => l.length - (intOf i).toNat)
        case atStart => exact ⟨0, [], rfl, Nat.zero_le _, OutAt.nil _ _, rfl, Fr.refl _ _⟩
        case round =>
          obtain ⟨k, o, rfl, hk, ho, hs, hf⟩ := hrel
          have hol : o.length ≤ k := by rw [hs]; exact Nat.le_trans (List.length_filter_le _ _) (by rw [List.length_take]; omega)
          obtain ⟨so, co, rfl, _, _⟩ := LAt.form ho.lies
          have HO := Lib.hid ho
          have HS := Lib.hid hs
          have HFK := Lib.hid hf
          clear ho hs hf
          by_cases h2 : k < l.length
          · obtain ⟨d, hd⟩ : ∃ d, l[k]? = some d := ⟨_, List.getElem?_eq_getElem h2⟩
            have t2 : decide (k < l.length) = true := by simpa using h2
            obtain ⟨gx, ox, d1, e1, hgx, l1, k1⟩ := CaIn.here (LIn.keep0 HX.out (Fr.trans (T := []) HFJ.out HFK.out (by simp))) (by omega)
            simp only [Value.slice.injEq] at e1
            obtain ⟨rfl, _, rfl⟩ := e1
            have X1 := k1 j c HC.out
            obtain ⟨p0, p1, p2, p3, p4⟩ := k1 k d hd
            have y1 := X1.c1
            have HST := Lib.hid (ofKey_step (key := c.key) hd)
            have n1 : ¬ gx = wr.heap.size := by omega
            have n2 : ¬ wr.heap.size = gx := by omega
            clear hd k1 X1
            by_cases hkk : d.key = c.key
            · have t3 : (d.key.toList == c.key.toList) = true := by rw [bs_beq]; simpa using hkk
              have HE : Hid (ofKey c.key (l.take (k + 1)) = o ++ [d]) := Lib.hid (by rw [HST.out, if_pos hkk, HS.out])
              clear hkk
              go_wp2_with fail
              go_quiet (fail)
              have HON := Lib.hid (HO.out.keep ((Fr.refl [] wr).drewN nq))
              have HN := Lib.hid (HFK.out.drewN nq)
              go_wp2_with (at_builtin; refine wpList_append_any rfl (.tmp 46) (.tmp 51) 25 29 (.agg #[.int .i64 0, .string ⟨#[]⟩, .bool false, .int .i64 0, .int .i64 0]) 5 48 rfl ca_slice ca_info rfl (by decide) _ o.length (allC Ca.cells o) rfl (HON.out.lies.keep0 ((Fr.refl [] _).alloc _)) _ 1 d.cells rfl (lies_row (wr.drewN nq) 29 d.cells rfl _ rfl) d.cone (by unfold maxLen; omega) (by omega) ?app)
              case app =>
              intro v' w' h1 h2 h3
              have ha := (HON.out.keep ((Fr.refl [] (wr.drewN nq)).alloc (.cells d.cells.toArray 29)))
              have HA := Lib.hid (OutAt.app ha (by have := HN.out.size; simp at this ⊢; omega) (xs := [d]) (by rw [allC_one]; exact h1) rfl h3)
              have HG := Lib.hid (OutAt.fr ha (HN.out.alloc _) h2)
              clear h1 h2 h3 ha
              go_wp2_with fail
              go_roundw
              case rel => exact ⟨k + 1, o ++ [d], by go_num, by omega, HA.out, HE.out.symm, HG.out⟩
              case measure => simp [intOf]; omega
            · have t3 : (d.key.toList == c.key.toList) = false := by rw [bs_beq]; simpa using hkk
              have HE : Hid (ofKey c.key (l.take (k + 1)) = o) := Lib.hid (by rw [HST.out, if_neg hkk, HS.out])
              clear hkk
              go_wp2_with fail
              go_quiet (fail)
              go_wp2_with fail
              go_roundw
              case rel => exact ⟨k + 1, o, by go_num, by omega, HO.out.keep ((Fr.refl [] wr).drewN nq), HE.out.symm, HFK.out.drewN nq⟩
              case measure => simp [intOf]; omega
          · have t2 : decide (k < l.length) = false := by simpa using h2
            have HE : Hid (o = ofKey c.key l) := Lib.hid (by rw [HS.out, List.take_of_length_le (by omega)])
            obtain ⟨R, hR⟩ : ∃ R, R = fitsB first o := ⟨_, rfl⟩
            have HR : Hid (Calls Try.prog 13 #[.slice fs first.length fc, .slice so o.length co] wr fun e w' => e = .returned (.bool R) ∧ Fr [] wr w') := Lib.hid (by rw [hR]; exact or_fits _ _ first o wr (LIn.keep0 HFI.out (Fr.trans (T := []) HFJ.out HFK.out (by simp))) (LAt.read HO.out.lies Ca.clen))
            have HB : Hid (keysB first l (j + 1) = (F && R)) := Lib.hid (by rw [keysB_step HC.out, HFF.out, hR, HE.out])
            clear hR
            cases F
            · go_wp2_with fail
              go_roundw
              case rel => exact ⟨j + 1, by go_num, by omega, by rw [HB.out]; rfl, Fr.trans (T := []) HFJ.out HFK.out (by simp)⟩
              case measure => simp [intOf]; omega
            · go_wp2_with (go_at_call 13; refine HR.out.mono ?_; rintro e w3 ⟨rfl, hf⟩; have HF3 := Lib.hid (Fr.trans (T := []) HFK.out hf (by simp)); clear hf)
              go_roundw
              case rel => exact ⟨j + 1, by go_num, by omega, by rw [HB.out]; rfl, Fr.trans (T := []) HFJ.out HF3.out (by simp)⟩
              case measure => simp [intOf]; omega
      · have t1 : decide (j < l.length) = false := by simpa using h
        have ej : j = l.length := by omega
        subst ej
        have HFE : Hid (F = fitsB first l) := Lib.hid (by rw [HFF.out, keysB_all hb2])
        have HR : Hid (Calls Try.prog 13 #[.slice fs first.length fc, .slice s3 l.length c3] wO fun e w' => e = .returned (.bool F) ∧ Fr [] wO w') := Lib.hid (by rw [HFE.out]; exact or_fits _ _ first l wO (LIn.keep0 HFI.out HFJ.out) (LIn.keep0 HX.out HFJ.out))
        go_wp2_with (go_at_call 13; refine HR.out.mono ?_; rintro e w3 ⟨rfl, hf⟩; have HF3 := Lib.hid (Fr.trans (T := []) HF2.out (Fr.trans (T := []) HFJ.out hf (by simp)) (by simp)); clear hf)
        go_ret
        refine ⟨?_, HF3.out.below (Nat.le_refl _) (by simp)⟩
        first | rfl | (cases F <;> rfl)
  · go_wp2_with fail
    go_ret
    exact ⟨rfl, HF1.out.below (Nat.le_refl _) (by simp)⟩

set_option maxRecDepth 100000 in
theorem contract (H : Type) (enc : TypeId × Value → H) (W : World) (base : Nat) (args : Array Value) (ds gs : List (DataW H)) (before : List MemPlace)
    (hval0 : ∀ (j : Nat) t v, Try.f5.params[j]? = some t → args[j]? = some v → Value.okWide Try.prog W .any base t v)
    (hW : DataW.Whole enc Try.prog Try.f5.params.toList Rows.orderKeysSpec.vars false W args.toList ds gs before) :
    Calls Try.prog 5 args W fun e W' => ∃ v, e = .returned v ∧ Rows.orderKeysSpec.post enc Try.prog Try.f5 false true false false W args v W' := by
  have hval : ∀ (j : Nat) t v, Try.f5.params[j]? = some t → args[j]? = some v → Value.okWide Try.prog W .any base t v := hval0
  have hW' := hW
  obtain ⟨p, q, hA0, hV, rfl, hfz, hnd⟩ := hW
  have hA : DataW.TrodAll enc Try.prog W 0 (fun _ => true) true Try.f5.params.toList args.toList ds p := hA0
  rw [Try.params5] at hA hval
  obtain ⟨v0, vs0, d0, ds0, p0, q0, hargs, rfl, rfl, h0, r0⟩ := trodAll_cons hA
  obtain ⟨v1, vs1, d1, ds1, p1, q1, rfl, rfl, rfl, h1, r1⟩ := trodAll_cons r0
  obtain ⟨rfl, rfl, rfl⟩ := trodAll_nil r1
  obtain rfl : args = #[v0, v1] := by cases args; simp_all
  obtain ⟨rfl, rfl⟩ := trodVars_none hV
  have k0 := h0
  have lt0 : ∀ x ∈ p0, x.block < W.heap.size := by obtain ⟨m, hm⟩ := k0; exact DataW.trod_lt m _ _ _ hm
  have k1 := h1
  have lt1 : ∀ x ∈ p1, x.block < W.heap.size := by obtain ⟨m, hm⟩ := k1; exact DataW.trod_lt m _ _ _ hm
  obtain ⟨first, hfirst⟩ := open_strs (hval 0 22 v0 rfl rfl) h0
  obtain ⟨l, hl⟩ := open_cas (hval 1 23 v1 rfl rfl) h1
  clear hA0 hval0 hval
  refine (walk v0 v1 first l W hfirst hl).mono fun e W' ⟨he, bel⟩ => ?_
  subst he
  exact ⟨_, rfl, _, _, _, [], _, [], hW', trodAll_mk1 (shut_bool Try.underlying4 _), (trodAll_cons_mk (Below.trod laid_prog (by kernel_rfl) (of_decide_eq_true (by kernel_rfl)) k0 bel lt0) (trodAll_cons_mk (Below.trod laid_prog (by kernel_rfl) (of_decide_eq_true (by kernel_rfl)) k1 bel lt1) trodAll_mk0)), rfl, bel.frame _, fun h => by cases h⟩

set_option maxRecDepth 100000 in
theorem lifted (os : Os) (started : os.Started) (H : Type) (enc : TypeId × Value → H) :
    ReturnsInHanded {} Try.checked os 5 .any (Rows.orderKeysSpec.pre6 enc Try.prog Try.f5 Rows.orderKeysRow.domain false) (Rows.orderKeysSpec.post enc Try.prog Try.f5 false true false false) := by
  refine returnsInHanded_of_change (C := Try.checked) own_prog started (by kernel_rfl) Try.func5
    (ChangeSpec.witness6 (enc := enc) (C := Try.checked) false ⟨#[], #[.slice none 0 0, .slice none 0 0], []⟩ 8 (by kernel_rfl) (by kernel_rfl) (by kernel_rfl) (by kernel_rfl)) ?_
  intro W base args ds gs before hval hW _ _
  exact contract H enc W base args ds gs before hval hW

theorem proved : Rows.OrderKeysSaid :=
  OpenClaim.holds_of_wide 5 Try.f5 rfl rfl rfl rfl rfl rfl rfl ⟨rfl, rfl, rfl, rfl, rfl⟩ rfl rfl rfl rfl rfl (by kernel_rfl) Try.func5 (by kernel_rfl)
    (of_decide_eq_true (by kernel_rfl)) (by unfold Func.isWrapper; first | (rw [if_pos (by decide +kernel)]; kernel_rfl) | (rw [if_neg (by decide +kernel)]; exact ⟨rfl, rfl⟩))
    (fun os started H enc _ => lifted os started H enc)

end Go.Proofs.Ytbbhekmhffhpfaa.lawOrderKeys
