/- A copy is alike; what is done to it isn't done to the other one; a map that is nil has nothing: for every list of deeds and every deed. No condition. -/
import Derived.Test.YtpahencocbahgaaHistAwake
import Derived.Test.YtpahencocbahgaaHistLaw
namespace Go.Proofs.Ytpahencocbahgaa.lawHistCopies
open Go.ChangeShapes Go.WideShapes Go.ChangeAt Go.RowKit Go.Deep Go.ChangeMaps
set_option linter.unusedVariables false
set_option linter.unusedSimpArgs false

set_option maxRecDepth 100000 in
set_option maxHeartbeats 4000000 in
theorem walk (lv : Value) (l : List Dd) (d : Dd) (w : World) (hl : DdIn w lv l) (hd : OdIn w d.u d.ops) :
    Calls Try.prog 6 #[lv, .agg #[.int .i64 d.kind, d.u, .int .i64 d.rev]] w fun e w' => e = .returned (.bool true) ∧ Below w.heap.size w w' := by
  have HL := Lib.hid hl
  have HD := Lib.hid hd
  obtain ⟨s1, c1, rfl, _, _⟩ := hl.form
  obtain ⟨su, cu, hu, lu, mu⟩ := LIn.form hd
  unfold maxLen at mu
  obtain ⟨dk, du, dr, dops⟩ := d
  dsimp only at hu HD lu ⊢
  subst hu
  clear hl hd
  obtain ⟨wb, hwb⟩ : ∃ wb, wb = w.alloc (Obj.cells #[.int .i64 dk, .slice su dops.length cu, .int .i64 dr] 41) := ⟨_, rfl⟩
  have HWB := Lib.hid hwb
  have HX : Hid (wb.heap[w.heap.size]? = some (.cells #[.int .i64 dk, .slice su dops.length cu, .int .i64 dr] 41 (0, 0))) := Lib.hid (by rw [hwb]; exact new_block w _)
  have HF0 : Hid (Fr [] w wb) := Lib.hid (by rw [hwb]; exact (Fr.refl [] w).alloc _)
  have HZ : Hid (wb.heap.size = w.heap.size + 1) := Lib.hid (by rw [hwb]; simp)
  clear hwb
  go_enter Try.func6, Try.ntmps6
  go_wp2_with fail
  rw [← HWB.out]
  go_wp2_with (first
    | (go_at_call 7; refine (hist_awake _).mono ?_; rintro e w1 ⟨rfl, h1⟩; have HF := Lib.hid h1; replace HL := Lib.hid (HL.out.keep0 (HF0.out.trans h1 (by simp))); clear h1)
    | (go_at_call 8; refine (hfew_any _ l _ HL.out).mono ?_; rintro e wn ⟨b, rfl, hb, rfl⟩; refine go_stop ?_))
  unfold Stop
  have HFW := Lib.hid (HF0.out.trans HF.out (by simp))
  cases b
  · clear hb
    go_wp2_with fail
    go_ret
    exact ⟨rfl, HFW.out.below (Nat.le_refl _) (by simp)⟩
  · obtain ⟨h30, h8⟩ := hb.1 rfl
    have H8 := Lib.hid h8
    clear hb h8
    obtain ⟨b0, b1, b2, _⟩ := cells3 (HF.out.keep HX.out (by simp))
    by_cases h9 : dops.length ≤ 8
    · have t1 : decide ((8 : Int) < (dops.length : Int)) = false := by simp; omega
      go_wp2_with (go_at_call 9; refine (hran_any _ l _ HL.out h30 H8.out).mono ?_; rintro e w2 ⟨p, S, rfl, h1, h2, h3⟩; refine go_stop ?_)
      unfold Stop
      have hok := runH_ok l H8.out l.length (Nat.le_refl _)
      rw [List.take_length] at hok
      obtain ⟨H, hH⟩ : ∃ H, H = runH l := ⟨_, rfl⟩
      rw [← hH] at hok h1
      replace hok := hok.mono h30
      have OK := Lib.hid hok
      have hrl := hok.rev
      have AT := Lib.hid (at_ok (H := H) (n := H.rows.length) hok.hor (Nat.le_refl _))
      have e1 := AT.out.1
      have HS := Lib.hid h1
      have HG : Hid (∀ k ∈ S, wb.heap.size ≤ k) := Lib.hid (fun k hk => Nat.le_trans HF.out.size (h3 k hk))
      have HF2 := Lib.hid (HF.out.trans h2 (by simp))
      clear h1 h2 h3 hok hH HF HFW HL b0 b1 b2
      go_wp2_with (go_at_call 18; refine (hist_copy HS.out OK.out (by decide)).mono ?_; rintro e w3 ⟨q, S2, rfl, h1, h2, h3⟩; refine go_stop ?_)
      unfold Stop
      have hdis : ∀ k ∈ S, k ∉ S2 := fun k hk hm => by have := HS.out.lt k hk; have := h3 k hm; omega
      have HDIS := Lib.hid hdis
      have HSC := Lib.hid h1
      have HGC : Hid (∀ k ∈ S2, wb.heap.size ≤ k) := Lib.hid (fun k hk => Nat.le_trans HF2.out.size (h3 k hk))
      replace HS := Lib.hid (HS.out.keep h2 (by simp))
      replace HF2 := Lib.hid (HF2.out.trans h2 (by simp))
      clear h1 h2 h3 hdis
      go_wp2_with (first
        | (go_at_call 10; refine (hist_rev HS.out).mono ?_; rintro e wn ⟨rfl, rfl⟩)
        | (go_at_call 11; refine go_stop ?_))
      unfold Stop
      refine (hist_at (H := H) (n := 30) _ _ _ HS.out OK.out (by decide)).mono ?_
      rintro e w4 ⟨v4, rfl, h1, hnew, h3⟩
      have WAS : Hid (LFar S2 Kv.cells 3 w4 v4 (H.atL H.rows.length ⟨#[]⟩ ⟨#[]⟩)) := Lib.hid (LFar.of_new h1.lin hnew HSC.out.lt)
      obtain ⟨s4, c4, rfl, _, _⟩ := h1.form
      replace HS := Lib.hid (HS.out.keep h3 (by simp))
      replace HSC := Lib.hid (HSC.out.keep h3 (by simp))
      replace HF2 := Lib.hid (HF2.out.trans h3 (by simp))
      clear h1 hnew h3
      go_wp2_with (go_at_call 11; refine go_stop ?_)
      unfold Stop
      refine (hist_at (H := H) (n := 30) _ _ _ HSC.out OK.out (by decide)).mono ?_
      rintro e w5 ⟨v5, rfl, h1, hnew, h3⟩
      have SAME : Hid (LFar S2 Kv.cells 3 w5 v5 (H.atL H.rows.length ⟨#[]⟩ ⟨#[]⟩)) := Lib.hid h1
      obtain ⟨s5, c5, rfl, _, _⟩ := h1.form
      replace WAS := Lib.hid (WAS.out.keep0 h3)
      replace HS := Lib.hid (HS.out.keep h3 (by simp))
      replace HSC := Lib.hid (HSC.out.keep h3 (by simp))
      replace HF2 := Lib.hid (HF2.out.trans h3 (by simp))
      clear h1 hnew h3
      obtain ⟨b0, b1, b2, _⟩ := cells3 (HF2.out.keep HX.out (by simp))
      have HO := Lib.hid (LFar.of_oldw HD.out (HF0.out.trans HF2.out (by simp)) (S := S2) (fun k hk => by have := HGC.out k hk; have := HZ.out; omega))
      go_wp2_with (go_at_call 12; refine go_stop ?_)
      unfold Stop
      refine (hdo_any (n := 30) HSC.out OK.out (by decide) _ [] 0 [] (by simp) (RowsF.nil _ _) (XOk.nil _) dk dr _ dops HO.out h9).mono ?_
      rintro e w6 ⟨rv2, rows2, hor2, b2', S3, rfl, h1, h2, h3, h4, h5⟩
      replace WAS := Lib.hid (WAS.out.keep h4)
      replace SAME := Lib.hid (SAME.out.keep h4)
      replace HS := Lib.hid (HS.out.keep h4 HDIS.out)
      replace HF2 := Lib.hid (HF2.out.trans h4 (fun k hk => Or.inr (HGC.out k hk)))
      clear h1 h2 h3 h4 h5 b0 b1 b2 HO HSC
      obtain ⟨b0, b1, b2, _⟩ := cells3 (HF2.out.keep HX.out (by simp))
      have hsame : sameB kvB (H.atL H.rows.length ⟨#[]⟩ ⟨#[]⟩) (H.atL H.rows.length ⟨#[]⟩ ⟨#[]⟩) = true := (sameB_eq kvB_eq).2 rfl
      have SB := Lib.hid hsame
      clear hsame
      go_wp2_with (go_at_call 11; refine go_stop ?_)
      unfold Stop
      refine (hist_at (H := H) (n := 30) _ _ _ HS.out OK.out (by decide)).mono ?_
      rintro e w7 ⟨v7, rfl, h1, hnew, h3⟩
      have NOW := Lib.hid h1.lin
      obtain ⟨s7, c7, rfl, _, _⟩ := h1.form
      replace WAS := Lib.hid (WAS.out.keep0 h3)
      replace SAME := Lib.hid (SAME.out.keep0 h3)
      replace HS := Lib.hid (HS.out.keep h3 (by simp))
      replace HF2 := Lib.hid (HF2.out.trans h3 (by simp))
      obtain ⟨b0, b1, b2, _⟩ := cells3 (HF2.out.keep HX.out (by simp))
      clear h1 hnew h3
      go_wp2_with (first
        | (go_at_call 11; refine (hist_at_nil _ _ _).mono ?_; rintro e w7 ⟨rfl, h3⟩; replace NOW := Lib.hid (LIn.keep0 NOW.out h3); replace WAS := Lib.hid (WAS.out.keep0 h3); replace SAME := Lib.hid (SAME.out.keep0 h3); replace HS := Lib.hid (HS.out.keep h3 (by simp)); replace HF2 := Lib.hid (HF2.out.trans h3 (by simp)); obtain ⟨b0, b1, b2, _⟩ := cells3 (HF2.out.keep HX.out (by simp)); clear h3)
        | (go_at_call 19; refine (hist_events_nil _ _).mono ?_; rintro e w7 ⟨rfl, h3⟩; replace NOW := Lib.hid (LIn.keep0 NOW.out h3); replace WAS := Lib.hid (WAS.out.keep0 h3); replace SAME := Lib.hid (SAME.out.keep0 h3); replace HS := Lib.hid (HS.out.keep h3 (by simp)); replace HF2 := Lib.hid (HF2.out.trans h3 (by simp)); obtain ⟨b0, b1, b2, _⟩ := cells3 (HF2.out.keep HX.out (by simp)); clear h3)
        | (go_at_call 14; refine go_stop ?_))
      unfold Stop
      refine (rkvs_any _ _ _ _ _ WAS.out.lin SAME.out.lin).mono ?_
      rintro e w8 ⟨rfl, h3⟩
      rw [SB.out]
      replace NOW := Lib.hid (LIn.keep0 NOW.out h3)
      replace WAS := Lib.hid (WAS.out.keep0 h3)
      replace SAME := Lib.hid (SAME.out.keep0 h3)
      replace HS := Lib.hid (HS.out.keep h3 (by simp))
      replace HF2 := Lib.hid (HF2.out.trans h3 (by simp))
      obtain ⟨b0, b1, b2, _⟩ := cells3 (HF2.out.keep HX.out (by simp))
      clear h3
      go_wp2_with (go_at_call 14; refine go_stop ?_)
      unfold Stop
      refine (rkvs_any _ _ _ _ _ WAS.out.lin NOW.out).mono ?_
      rintro e w8 ⟨rfl, h3⟩
      rw [SB.out]
      replace NOW := Lib.hid (LIn.keep0 NOW.out h3)
      replace WAS := Lib.hid (WAS.out.keep0 h3)
      replace SAME := Lib.hid (SAME.out.keep0 h3)
      replace HS := Lib.hid (HS.out.keep h3 (by simp))
      replace HF2 := Lib.hid (HF2.out.trans h3 (by simp))
      obtain ⟨b0, b1, b2, _⟩ := cells3 (HF2.out.keep HX.out (by simp))
      clear h3
      go_wp2_with (go_at_call 10; refine go_stop ?_)
      unfold Stop
      refine (hist_rev HS.out).mono ?_
      rintro e wn ⟨rfl, rfl⟩
      go_wp2_with (first
        | (go_at_call 10; refine (hist_rev_nil _).mono ?_; rintro e wn ⟨rfl, rfl⟩)
        | (go_at_call 13; refine (hist_hor_nil _).mono ?_; rintro e wn ⟨rfl, rfl⟩)
        | (go_at_call 17; refine (hist_compact_nil _ _).mono ?_; rintro e w7 ⟨rfl, h3⟩; replace HF2 := Lib.hid (HF2.out.trans h3 (by simp)); obtain ⟨b0, b1, b2, _⟩ := cells3 (HF2.out.keep HX.out (by simp)); clear h3)
        | (go_at_call 16; refine (hist_apply_nil _ _).mono ?_; rintro e w7 ⟨rfl, h3⟩; replace HF2 := Lib.hid (HF2.out.trans h3 (by simp)); obtain ⟨b0, b1, b2, _⟩ := cells3 (HF2.out.keep HX.out (by simp)); clear h3)
        | (go_at_call 18; refine (hist_copy_nil _).mono ?_; rintro e w7 ⟨rfl, h3⟩; replace HF2 := Lib.hid (HF2.out.trans h3 (by simp)); obtain ⟨b0, b1, b2, _⟩ := cells3 (HF2.out.keep HX.out (by simp)); clear h3))
      go_ret
      exact ⟨rfl, (HF0.out.trans HF2.out (by simp)).below (Nat.le_refl _) (by simp)⟩
    · have t1 : decide ((8 : Int) < (dops.length : Int)) = true := by simp; omega
      go_wp2_with fail
      go_ret
      exact ⟨rfl, HFW.out.below (Nat.le_refl _) (by simp)⟩

set_option maxRecDepth 100000 in
theorem contract (H : Type) (enc : TypeId × Value → H) (W : World) (base : Nat) (args : Array Value) (ds gs : List (DataW H)) (before : List MemPlace)
    (hval0 : ∀ (j : Nat) t v, Try.f6.params[j]? = some t → args[j]? = some v → Value.okWide Try.prog W .any base t v)
    (hW : DataW.Whole enc Try.prog Try.f6.params.toList Rows.histCopiesSpec.vars false W args.toList ds gs before) :
    Calls Try.prog 6 args W fun e W' => ∃ v, e = .returned v ∧ Rows.histCopiesSpec.post enc Try.prog Try.f6 false true false false W args v W' := by
  have hval : ∀ (j : Nat) t v, Try.f6.params[j]? = some t → args[j]? = some v → Value.okWide Try.prog W .any base t v := hval0
  have hW' := hW
  obtain ⟨p, q, hA0, hV, rfl, hfz, hnd⟩ := hW
  have hA : DataW.TrodAll enc Try.prog W 0 (fun _ => true) true Try.f6.params.toList args.toList ds p := hA0
  rw [Try.params6] at hA hval
  obtain ⟨v0, vs0, d0, ds0, p0, q0, hargs, rfl, rfl, h0, r0⟩ := trodAll_cons hA
  obtain ⟨v1, vs1, d1, ds1, p1, q1, rfl, rfl, rfl, h1, r1⟩ := trodAll_cons r0
  obtain ⟨rfl, rfl, rfl⟩ := trodAll_nil r1
  obtain rfl : args = #[v0, v1] := by cases args; simp_all
  obtain ⟨rfl, rfl⟩ := trodVars_none hV
  have k0 := h0
  have lt0 : ∀ x ∈ p0, x.block < W.heap.size := by obtain ⟨m, hm⟩ := k0; exact DataW.trod_lt m _ _ _ hm
  have k1 := h1
  have lt1 : ∀ x ∈ p1, x.block < W.heap.size := by obtain ⟨m, hm⟩ := k1; exact DataW.trod_lt m _ _ _ hm
  obtain ⟨l, hl⟩ := open_deeds (hval 0 22 v0 rfl rfl) h0
  obtain ⟨d, rfl, hd⟩ := open_deed (hval 1 41 v1 rfl rfl) h1
  clear hA0 hval0 hval
  refine (walk v0 l d W hl hd).mono fun e W' ⟨he, bel⟩ => ?_
  subst he
  exact ⟨_, rfl, _, _, _, [], _, [], hW', trodAll_mk1 (shut_bool Try.underlying4 _), (trodAll_cons_mk (Below.trod laid_prog (by kernel_rfl) (of_decide_eq_true (by kernel_rfl)) k0 bel lt0) (trodAll_cons_mk (Below.trod laid_prog (by kernel_rfl) (of_decide_eq_true (by kernel_rfl)) k1 bel lt1) trodAll_mk0)), rfl, bel.frame _, fun h => by cases h⟩

set_option maxRecDepth 100000 in
theorem lifted (os : Os) (started : os.Started) (H : Type) (enc : TypeId × Value → H) :
    ReturnsInHanded {} Try.checked os 6 .any (Rows.histCopiesSpec.pre6 enc Try.prog Try.f6 Rows.histCopiesRow.domain false) (Rows.histCopiesSpec.post enc Try.prog Try.f6 false true false false) := by
  refine returnsInHanded_of_change (C := Try.checked) own_prog started (by kernel_rfl) Try.func6
    (ChangeSpec.witness6 (enc := enc) (C := Try.checked) false ⟨#[], #[.slice none 0 0, .agg #[.int .i64 0, .slice none 0 0, .int .i64 0]], []⟩ 8 (by kernel_rfl) (by kernel_rfl) (by kernel_rfl) (by kernel_rfl)) ?_
  intro W base args ds gs before hval hW _ _
  exact contract H enc W base args ds gs before hval hW

theorem proved : Rows.HistCopiesSaid :=
  OpenClaim.holds_of_wide 6 Try.f6 rfl rfl rfl rfl rfl rfl rfl ⟨rfl, rfl, rfl, rfl, rfl⟩ rfl rfl rfl rfl rfl (by kernel_rfl) Try.func6 (by kernel_rfl)
    (of_decide_eq_true (by kernel_rfl)) (by unfold Func.isWrapper; first | (rw [if_pos (by decide +kernel)]; kernel_rfl) | (rw [if_neg (by decide +kernel)]; exact ⟨rfl, rfl⟩))
    (fun os started H enc _ => lifted os started H enc)

end Go.Proofs.Ytpahencocbahgaa.lawHistCopies
