/- Whatever four threads begin on one tree of 20 keys at most, and whoever is picked, 400 deeds at most: the calls of each key, if they are 12 at most, fit an order of what was there at first: for every list of keys and every list of deeds. No condition. -/
import Derived.Test.YtmhiolhgofackaaGreatCrAk
import Derived.Test.YtmhiolhgofackaaGreatCrDo
namespace Go.Proofs.YtmhiolhgofackaaGreat.lawCrowdFits
open Go.ChangeShapes Go.WideShapes Go.ChangeAt Go.RowKit Go.Deep Go.ChangeMaps
set_option linter.unusedVariables false
set_option linter.unusedSimpArgs false

set_option maxRecDepth 100000 in
set_option maxHeartbeats 4000000 in
theorem walk (fv lv : Value) (first : List ByteArray) (l : List Dd) (w : World) (hf : SsIn w fv first) (hl : DdIn w lv l) :
    Calls Tryz.prog 3 #[fv, lv] w fun e w' => e = .returned (.bool true) ∧ Below w.heap.size w w' := by
  obtain ⟨fs, fc, rfl, fa, fb⟩ := LIn.form hf
  obtain ⟨ls, lc, rfl, la, lb⟩ := LIn.form hl
  unfold maxLen at fb lb
  have HF := Lib.hid hf
  have HL := Lib.hid hl
  clear hf hl
  by_cases g1 : (20 : Int) < (first.length : Int)
  · have t1 : decide ((20 : Int) < (first.length : Int)) = true := decide_eq_true g1
    clear g1
    go_enter Tryz.func3, Tryz.ntmps3
    go_wp2_with (go_at_call 6; refine (cr_awake _).mono ?_; rintro e w1 ⟨rfl, hf⟩; have HF1 := Lib.hid hf; clear hf)
    go_ret
    exact ⟨rfl, HF1.out.below (Nat.le_refl _) (by simp)⟩
  have t1 : decide ((20 : Int) < (first.length : Int)) = false := decide_eq_false g1
  by_cases g2 : (400 : Int) < (l.length : Int)
  · have t2 : decide ((400 : Int) < (l.length : Int)) = true := decide_eq_true g2
    clear g1 g2
    go_enter Tryz.func3, Tryz.ntmps3
    go_wp2_with (go_at_call 6; refine (cr_awake _).mono ?_; rintro e w1 ⟨rfl, hf⟩; have HF1 := Lib.hid hf; clear hf)
    go_ret
    exact ⟨rfl, HF1.out.below (Nat.le_refl _) (by simp)⟩
  have t2 : decide ((400 : Int) < (l.length : Int)) = false := decide_eq_false g2
  have hl20 : first.length ≤ 20 := by omega
  have hl400 : l.length ≤ 400 := by omega
  clear g1 g2
  go_enter Tryz.func3, Tryz.ntmps3
  go_wp2_with (go_at_call 6; refine (cr_awake _).mono ?_; rintro e w1 ⟨rfl, hf⟩; refine go_stop ?_)
  unfold Stop
  have HF1 := Lib.hid hf
  clear hf
  have HBG := Lib.hid (cr_begun _ first w1 (LIn.keep0 HF.out HF1.out) hl20)
  go_wp2_with (go_at_call 7; refine HBG.out.mono ?_; rintro e w2 ⟨tb, mb, B, rfl, HB⟩; refine go_stop ?_)
  unfold Stop
  have HC := Lib.hid HB.out.cw
  obtain ⟨cb, hcb⟩ : ∃ cb, cb = B.cb := ⟨_, rfl⟩
  rw [← hcb] at HC ⊢
  clear HBG HB hcb
  go_wp2_with fail
  go_loopw [8] (fun i wr => ∃ (j : Nat) (c : Cro), i = .int .i64 j ∧ j ≤ l.length ∧ Cw w1 wr tb mb cb (inS first) c [] ∧ c.now ≤ j) (fun i _ => l.length - (intOf i).toNat)
  case atStart => exact ⟨0, _, rfl, Nat.zero_le _, HC.out, Nat.le_refl _⟩
  case round =>
    obtain ⟨j, c, rfl, hj, hc, hn⟩ := hrel
    have HCW := Lib.hid hc
    clear hc HC
    by_cases h : j < l.length
    · have t0 : decide ((j : Int) < (l.length : Int)) = true := decide_eq_true (by omega)
      obtain ⟨d, hd⟩ : ∃ d, l[j]? = some d := ⟨_, List.getElem?_eq_getElem h⟩
      obtain ⟨g, off, d1, e1, hg, l1, k1⟩ := DdIn.here (LIn.keep0 (LIn.keep0 HL.out HF1.out) HCW.out.fr) (by omega)
      simp only [Value.slice.injEq] at e1
      obtain ⟨rfl, _, rfl⟩ := e1
      obtain ⟨p0, p1, p2⟩ := k1 j d hd
      clear k1 hd
      have HDO := Lib.hid (cr_do HCW.out (by omega) d)
      go_wp2_with (go_at_call 8; refine HDO.out.mono ?_; rintro e w3 ⟨er, rfl, HV⟩; refine go_stop ?_)
      unfold Stop
      go_wp2_with fail
      go_roundw
      case rel =>
        obtain ⟨c', k1, k2⟩ := HV.out
        exact ⟨j + 1, c', by go_num, by omega, k2, by have := k1.step.1; omega⟩
      case measure => simp [intOf]; omega
    · have t0 : decide ((j : Int) < (l.length : Int)) = false := decide_eq_false (by omega)
      have HCA := Lib.hid (cw_Calls HCW.out (by omega))
      go_wp2_with (go_at_call 10; refine HCA.out.mono ?_; rintro e w4 ⟨v, rfl, hv, hf, _⟩; refine go_stop ?_)
      unfold Stop
      have HF4 := Lib.hid (Fr.trans (T := []) HF1.out (Fr.trans (T := []) HCW.out.fr hf (by simp)) (by simp))
      have HFT := Lib.hid (cr_fits _ v first c.cas w4 (LIn.keep0 HF.out HF4.out) (LAt.read hv Ca.clen) (by have := HCW.out.few; omega) (fun x hx h12 => HCW.out.ok.fits h12 (HCW.out.fit x.key)))
      clear hv hf
      go_wp2_with (go_at_call 9; refine HFT.out.mono ?_; rintro e w5 ⟨rfl, hf⟩; have HF5 := Lib.hid (Fr.trans (T := []) HF4.out hf (by simp)); clear hf)
      go_ret
      exact ⟨rfl, HF5.out.below (Nat.le_refl _) (by simp)⟩

set_option maxRecDepth 100000 in
theorem contract (H : Type) (enc : TypeId × Value → H) (W : World) (base : Nat) (args : Array Value) (ds gs : List (DataW H)) (before : List MemPlace)
    (hval0 : ∀ (j : Nat) t v, Tryz.f3.params[j]? = some t → args[j]? = some v → Value.okWide Tryz.prog W .any base t v)
    (hW : DataW.Whole enc Tryz.prog Tryz.f3.params.toList Rows.crowdFitsSpec.vars false W args.toList ds gs before) :
    Calls Tryz.prog 3 args W fun e W' => ∃ v, e = .returned v ∧ Rows.crowdFitsSpec.post enc Tryz.prog Tryz.f3 false true false false W args v W' := by
  have hval : ∀ (j : Nat) t v, Tryz.f3.params[j]? = some t → args[j]? = some v → Value.okWide Tryz.prog W .any base t v := hval0
  have hW' := hW
  obtain ⟨p, q, hA0, hV, rfl, hfz, hnd⟩ := hW
  have hA : DataW.TrodAll enc Tryz.prog W 0 (fun _ => true) true Tryz.f3.params.toList args.toList ds p := hA0
  rw [Tryz.params3] at hA hval
  obtain ⟨v0, vs0, d0, ds0, p0, q0, hargs, rfl, rfl, h0, r0⟩ := trodAll_cons hA
  obtain ⟨v1, vs1, d1, ds1, p1, q1, rfl, rfl, rfl, h1, r1⟩ := trodAll_cons r0
  obtain ⟨rfl, rfl, rfl⟩ := trodAll_nil r1
  obtain rfl : args = #[v0, v1] := by cases args; simp_all
  obtain ⟨rfl, rfl⟩ := trodVars_none hV
  have k0 := h0
  have lt0 : ∀ x ∈ p0, x.block < W.heap.size := by obtain ⟨m, hm⟩ := k0; exact DataW.trod_lt m _ _ _ hm
  have k1 := h1
  have lt1 : ∀ x ∈ p1, x.block < W.heap.size := by obtain ⟨m, hm⟩ := k1; exact DataW.trod_lt m _ _ _ hm
  obtain ⟨first, hfirst⟩ := open_strs (hval 0 22 v0 rfl rfl) h0
  obtain ⟨l, hl⟩ := open_dds (hval 1 23 v1 rfl rfl) h1
  clear hA0 hval0 hval
  refine (walk v0 v1 first l W hfirst hl).mono fun e W' ⟨he, bel⟩ => ?_
  subst he
  exact ⟨_, rfl, _, _, _, [], _, [], hW', trodAll_mk1 (shut_bool Tryz.underlying4 _), (trodAll_cons_mk (Below.trod laid_prog (by kernel_rfl) (of_decide_eq_true (by kernel_rfl)) k0 bel lt0) (trodAll_cons_mk (Below.trod laid_prog (by kernel_rfl) (of_decide_eq_true (by kernel_rfl)) k1 bel lt1) trodAll_mk0)), rfl, bel.frame _, fun h => by cases h⟩

set_option maxRecDepth 100000 in
theorem lifted (os : Os) (started : os.Started) (H : Type) (enc : TypeId × Value → H) :
    ReturnsInHanded {} Tryz.checked os 3 .any (Rows.crowdFitsSpec.pre6 enc Tryz.prog Tryz.f3 Rows.crowdFitsRow.domain false) (Rows.crowdFitsSpec.post enc Tryz.prog Tryz.f3 false true false false) := by
  refine returnsInHanded_of_change (C := Tryz.checked) own_prog started (by kernel_rfl) Tryz.func3
    (ChangeSpec.witness6 (enc := enc) (C := Tryz.checked) false ⟨#[], #[.slice none 0 0, .slice none 0 0], []⟩ 8 (by kernel_rfl) (by kernel_rfl) (by kernel_rfl) (by kernel_rfl)) ?_
  intro W base args ds gs before hval hW _ _
  exact contract H enc W base args ds gs before hval hW

theorem proved : Rows.CrowdFitsSaid :=
  OpenClaim.holds_of_wide 3 Tryz.f3 rfl rfl rfl rfl rfl rfl rfl ⟨rfl, rfl, rfl, rfl, rfl⟩ rfl rfl rfl rfl rfl (by kernel_rfl) Tryz.func3 (by kernel_rfl)
    (of_decide_eq_true (by kernel_rfl)) (by unfold Func.isWrapper; first | (rw [if_pos (by decide +kernel)]; kernel_rfl) | (rw [if_neg (by decide +kernel)]; exact ⟨rfl, rfl⟩))
    (fun os started H enc _ => lifted os started H enc)

end Go.Proofs.YtmhiolhgofackaaGreat.lawCrowdFits
