/- Each op that is planned changes something; done, as many events come of it: for every request and every list of ops. No condition. -/
import Derived.Test.YtjclbgeclopheaaTxAwake
import Derived.Test.YtjclbgeclopheaaTxLaw
import Derived.Test.YtjclbgeclopheaaHist
import Derived.Test.YtjclbgeclopheaaHsRef
namespace Go.Proofs.Ytjclbgeclopheaa.lawTxnChanges
open Go.ChangeShapes Go.WideShapes Go.ChangeAt Go.RowKit Go.Deep Go.ChangeMaps
set_option linter.unusedVariables false
set_option linter.unusedSimpArgs false

theorem may_zero {q : Rq} : mayE q = 0 ↔ mayQ q = true := by
  unfold mayE
  cases mayQ q <;> simp
set_option maxRecDepth 100000 in
set_option maxHeartbeats 4000000 in
theorem walk (lv : Value) (q : Rq) (l : List Od) (cv tv ev : Value) (w : World) (hq : RqIn w q cv tv ev) (hl : OdIn w lv l) :
    Calls Try.prog 4 #[.agg #[.int .i64 q.kind, .string q.f, .string q.t, .int .i64 q.rev, cv, tv, ev], lv] w fun e w' => e = .returned (.bool true) ∧ Below w.heap.size w w' := by
  have HL := Lib.hid hl
  have HQ := Lib.hid hq
  obtain ⟨s1, c1, rfl, la1, ma1⟩ := LIn.form hl
  obtain ⟨s2, c2, rfl, la2, ma2⟩ := LIn.form hq.c
  obtain ⟨s3, c3, rfl, la3, ma3⟩ := LIn.form hq.t
  obtain ⟨s4, c4, rfl, la4, ma4⟩ := LIn.form hq.e
  unfold maxLen at ma1 ma2 ma3 ma4
  clear hl hq
  obtain ⟨E, hE⟩ : ∃ E, E = mayE q := ⟨_, rfl⟩
  have HMAY : Hid (∀ X, Fr [] w X → Calls Try.prog 15 #[.agg #[.int .i64 q.kind, .string q.f, .string q.t, .int .i64 q.rev, .slice s2 q.cmps.length c2, .slice s3 q.thn.length c3, .slice s4 q.els.length c4]] X fun e w' => e = .returned (.int .i64 E) ∧ Fr [] X w') := Lib.hid (fun X hX => by rw [hE]; exact txn_may q _ _ _ X (HQ.out.keep0 hX))
  have HE := Lib.hid hE
  clear hE
  have HBQ : Hid ((w.alloc (.cells #[.int .i64 q.kind, .string q.f, .string q.t, .int .i64 q.rev, .slice s2 q.cmps.length c2, .slice s3 q.thn.length c3, .slice s4 q.els.length c4] 28)).heap[w.heap.size]? = some (.cells #[.int .i64 q.kind, .string q.f, .string q.t, .int .i64 q.rev, .slice s2 q.cmps.length c2, .slice s3 q.thn.length c3, .slice s4 q.els.length c4] 28 (0, 0))) := Lib.hid (new_block _ _)
  have HF0 : Hid (Fr [] w (w.alloc (.cells #[.int .i64 q.kind, .string q.f, .string q.t, .int .i64 q.rev, .slice s2 q.cmps.length c2, .slice s3 q.thn.length c3, .slice s4 q.els.length c4] 28))) := Lib.hid ((Fr.refl [] w).alloc _)
  go_enter Try.func4, Try.ntmps4
  go_wp2_with fail
  generalize w.alloc (.cells #[.int .i64 q.kind, .string q.f, .string q.t, .int .i64 q.rev, .slice s2 q.cmps.length c2, .slice s3 q.thn.length c3, .slice s4 q.els.length c4] 28) = w0 at *
  go_wp2_with (go_at_call 8; refine (tx_awake _).mono ?_; rintro e w1 ⟨rfl, h1⟩; refine go_stop ?_)
  unfold Stop
  have HF1 := Lib.hid (HF0.out.trans h1 (by simp))
  have HB1 := Lib.hid (h1.keep HBQ.out (by simp))
  obtain ⟨b0, b1, b2, b3, b4, b5, b6, _⟩ := cells7 HB1.out
  clear h1 HBQ
  go_wp2_with (go_at_call 15; refine (HMAY.out _ HF1.out).mono ?_; rintro e w2 ⟨rfl, h2⟩; refine go_stop ?_)
  unfold Stop
  have HF2 := Lib.hid (HF1.out.trans h2 (by simp))
  have HB2 := Lib.hid (h2.keep HB1.out (by simp))
  clear h2 HB1 b0 b1 b2 b3 b4 b5 b6
  obtain ⟨b0, b1, b2, b3, b4, b5, b6, _⟩ := cells7 HB2.out
  by_cases hE0 : E = 0
  · subst hE0
    have hmay := may_zero.1 HE.out.symm
    by_cases hk1 : q.kind = 1
    · by_cases hl20 : l.length ≤ 20
      · have t1 : decide ((20 : Int) < (l.length : Int)) = false := by simp; omega
        have HMQ := Lib.hid hmay
        have HK1 := Lib.hid hk1
        rw [hk1] at b0
        clear hmay hk1
        go_wp2_with (go_at_call 16; refine (hist_new _).mono ?_; rintro e w3 ⟨p, S0, rfl, h1, h2, h3⟩; refine go_stop ?_)
        unfold Stop
        have HS3 := Lib.hid h1
        have HF3 := Lib.hid (HF2.out.trans h2 (by simp))
        have HG3 : Hid (∀ k ∈ S0, w.heap.size ≤ k) := Lib.hid (fun k hk => Nat.le_trans HF2.out.size (h3 k hk))
        have HB3 := Lib.hid (h2.keep HB2.out (by simp))
        have HLT2 := Lib.hid (lt_of_block HB2.out)
        have HGE3 : Hid (∀ k ∈ S0, w2.heap.size ≤ k) := Lib.hid h3
        have HLF : Hid (LFar S0 Od.cells 3 w3 (.slice s1 l.length c1) l) := Lib.hid ((LFar.of_old HL.out HG3.out).keep0 HF3.out)
        clear h1 h2 h3 b0 b1 b2 b3 b4 b5 b6 HB2
        go_wp2_with (go_at_call 17; refine go_stop ?_)
        unfold Stop
        refine (hist_apply (n := 0) _ l HS3.out HOk.zero (by decide) HLF.out (by omega)).mono ?_
        rintro e w4 ⟨v4, S1, rfl, h1, h2, _, h4, h5⟩
        obtain ⟨s9, c9, rfl, _, _⟩ := h2.form
        obtain ⟨H1, hH1⟩ : ∃ H1, H1 = HA.zero.app l := ⟨_, rfl⟩
        have hok1 : HOk H1 1 := by rw [hH1]; exact HOk.zero.app hl20
        rw [← hH1] at h1
        have HS4 := Lib.hid h1
        have HF4 := Lib.hid (HF3.out.trans h4 (fun k hk => Or.inr (HG3.out k hk)))
        have HG4 : Hid (∀ k ∈ S1, w.heap.size ≤ k) := Lib.hid (fun k hk => by
          rcases h5 k hk with h6 | h6
          · exact HG3.out k h6
          · have := HF3.out.size; omega)
        have HB4 := Lib.hid (h4.keep HB3.out (fun hm => by have := HGE3.out _ hm; have := HLT2.out; omega))
        have OK1 := Lib.hid hok1
        have AT := Lib.hid (at_ok (H := H1) (n := H1.rows.length) hok1.hor (Nat.le_refl _))
        have hml : (mapN H1.rows H1.rows.length).length ≤ 100 := by
          have h1 := mapN_len H1.rows H1.rows.length
          have h2 := hok1.flat; omega
        clear h1 h2 h4 h5 hok1 hH1 HB3 HLF HGE3
        go_wp2_with (first
          | (go_at_call 19; refine (hist_rev HS4.out).mono ?_; rintro e wn ⟨rfl, rfl⟩)
          | (go_at_call 18; refine go_stop ?_))
        unfold Stop
        refine (hist_at (H := H1) (n := 1) _ _ _ HS4.out OK1.out (by decide)).mono ?_
        rintro e w5 ⟨v5, rfl, h1, hnew, h3⟩
        rw [AT.out.2] at h1
        rw [AT.out.1]
        obtain ⟨m, hm⟩ : ∃ m, m = mapN H1.rows H1.rows.length := ⟨_, rfl⟩
        rw [← hm] at h1 hml
        have HMM := Lib.hid hm
        obtain ⟨s5, c5, rfl, _, _⟩ := h1.form
        have HMV := Lib.hid h1.lin
        have HS5 := Lib.hid (HS4.out.keep h3 (by simp))
        have HF5 := Lib.hid (HF4.out.trans h3 (by simp))
        have HB5 := Lib.hid (h3.keep HB4.out (by simp))
        obtain ⟨b0, b1, b2, b3, b4, b5, b6, _⟩ := cells7 HB5.out
        clear h1 hnew h3 hm
        obtain ⟨hnd, hl4⟩ := plan_nodup (m := m) HMQ.out HK1.out
        have hlim : q.cmps.length ≤ 4 ∧ q.thn.length ≤ 4 ∧ q.els.length ≤ 4 := by
          have h := HMQ.out
          unfold mayQ at h
          rw [if_pos HK1.out] at h
          simp only [Bool.and_eq_true, opsB, cmsB, decide_eq_true_eq] at h
          exact ⟨h.1.1.2, h.1.2.2, h.2.2⟩
        obtain ⟨f1, f2, f3⟩ := hlim
        have HPL : Hid (Calls Try.prog 13 #[.slice s5 m.length c5, .agg #[.int .i64 q.kind, .string q.f, .string q.t, .int .i64 q.rev, .slice s2 q.cmps.length c2, .slice s3 q.thn.length c3, .slice s4 q.els.length c4]] w5 fun e w' => ∃ v, e = .returned (.tuple #[.bool (holdsC m q.cmps), v]) ∧ LFar S1 Od.cells 3 w' v (planL m q) ∧ Fr [] w5 w') := Lib.hid (by
          refine (txn_plan _ m q _ _ _ _ HMV.out (by rw [HMM.out]; exact srt_mapN _ _) (HQ.out.keep0 HF5.out) (by unfold many; omega) (by unfold many; omega) (by unfold many; omega) (by unfold many; omega)).mono ?_
          rintro e w' ⟨v, rfl, h1, h2, h3⟩
          exact ⟨v, rfl, h2 S1 HS5.out.lt ((LFar.of_old HQ.out.t HG4.out).keep0 HF5.out) ((LFar.of_old HQ.out.e HG4.out).keep0 HF5.out), h3⟩)
        have HTP := Lib.hid (told_plan (rows := H1.rows) HMQ.out HK1.out)
        rw [← HMM.out] at HTP
        have HKEEP := Lib.hid (fun o ho => (plan_sub (m := m) (q := q) o ho).1)
        clear hnd
        go_wp2_with (go_at_call 13; refine go_stop ?_)
        unfold Stop
        refine HPL.out.mono ?_
        rintro e w6 ⟨v6, rfl, h1, h2⟩
        obtain ⟨s6, c6, rfl, la6, ma6⟩ := h1.form
        unfold maxLen at ma6
        obtain ⟨pl, hpl⟩ : ∃ pl, pl = planL m q := ⟨_, rfl⟩
        rw [← hpl] at h1 la6 HTP HKEEP hl4 ⊢
        obtain ⟨hb, hhb⟩ : ∃ hb, hb = holdsC m q.cmps := ⟨_, rfl⟩
        rw [← hhb]
        have HPL2 := Lib.hid h1
        have HS6 := Lib.hid (HS5.out.keep h2 (by simp))
        have HF6 := Lib.hid (HF5.out.trans h2 (by simp))
        have HGET : Hid (∀ X k, Fr [] w6 X → Calls Try.prog 12 #[.slice s5 m.length c5, .string k] X fun e w' => e = .returned (.tuple #[.agg #[.string (getZ k m).key, .string (getZ k m).val, .int .i64 (getZ k m).rev], .bool (getK k m).isSome]) ∧ Fr [] X w') := Lib.hid (fun X k hX => rget_any _ m k X (LIn.keep0 HMV.out (h2.trans hX (by simp))) (by unfold many; omega))
        clear h1 h2 b0 b1 b2 b3 b4 b5 b6 HPL HMV HB5 hpl hhb HMAY
        go_wp2_with fail
        go_loopw [11] (fun i wr => ∃ (j : Nat), i = .int .i64 j ∧ j ≤ pl.length ∧ Hid (Fr [] w6 wr)) (fun i _ => pl.length - (intOf i).toNat)
        case atStart => exact ⟨0, rfl, Nat.zero_le _, Lib.hid (Fr.refl _ _)⟩
        case round =>
          obtain ⟨j, rfl, hj, HF7⟩ := hrel
          by_cases h : j < pl.length
          · obtain ⟨o, ho⟩ : ∃ o, pl[j]? = some o := ⟨_, List.getElem?_eq_getElem h⟩
            obtain ⟨g, off, d1, e1, _, l1, k1⟩ := OdIn.here (LIn.keep0 HPL2.out.lin HF7.out) (by omega)
            simp only [Value.slice.injEq] at e1
            obtain ⟨rfl, _, rfl⟩ := e1
            have HOC := Lib.hid (k1 j o ho)
            obtain ⟨p0, p1, p2⟩ := HOC.out
            have t2 : decide ((j : Int) < (pl.length : Int)) = true := by simp; omega
            have hkp := HKEEP.out o (List.mem_of_getElem? ho)
            unfold keepO at hkp
            have HG := Lib.hid (fun X (hX : Fr [] w6 X) => HGET.out X o.key hX)
            obtain ⟨b, hb'⟩ : ∃ b, b = (getK o.key m).isSome := ⟨_, rfl⟩
            obtain ⟨z, hz⟩ : ∃ z, z = getZ o.key m := ⟨_, rfl⟩
            rw [← hb'] at hkp HG
            rw [← hz] at HG
            clear ho k1 hb' hz
            go_wp2_with (go_at_call 12; refine (HG.out _ HF7.out).mono ?_; rintro e w8 ⟨rfl, h8⟩; refine go_stop ?_)
            unfold Stop
            have hal : Fr [] wr (w8.alloc (.cells #[.string z.key, .string z.val, .int .i64 z.rev] 35)) := h8.trans ((Fr.refl [] w8).alloc _) (by simp)
            have HF8 := Lib.hid (HF7.out.trans hal (by simp))
            obtain ⟨q0, q1, q2⟩ := HOC.out.keep hal (by simp)
            clear h8 hal p0 p1 p2
            obtain ⟨d, hd⟩ : ∃ d, d = o.del := ⟨_, rfl⟩
            rw [← hd] at q2 hkp
            clear hd
            cases d
            · go_wp2_with fail
              go_roundw
              case rel => exact ⟨j + 1, by go_num, by omega, HF8⟩
              case measure => simp [intOf]; omega
            · cases b
              · cases hkp
              · go_wp2_with fail
                go_roundw
                case rel => exact ⟨j + 1, by go_num, by omega, HF8⟩
                case measure => simp [intOf]; omega
          · have t2 : decide ((j : Int) < (pl.length : Int)) = false := by simp; omega
            have HS7 := Lib.hid (HS6.out.keep HF7.out (by simp))
            have HPL3 := Lib.hid (HPL2.out.keep0 HF7.out)
            go_wp2_with (go_at_call 17; refine go_stop ?_)
            unfold Stop
            refine (hist_apply (n := 1) _ pl HS7.out OK1.out (by decide) HPL3.out (by omega)).mono ?_
            rintro e w9 ⟨v9, S9, rfl, h1, h2, _, h4, h5⟩
            obtain ⟨s8, c8, rfl, _, _⟩ := h2.form
            have hlen : (H1.told pl).length = pl.length := HTP.out
            rw [hlen]
            have HF9 : Hid (Fr [] w w9) := Lib.hid ((HF6.out.trans HF7.out (by simp)).trans h4 (fun k hk => Or.inr (HG4.out k hk)))
            have hee : ((pl.length : Int) == (pl.length : Int)) = true := by simp
            clear h1 h2 h4 h5 hlen
            go_wp2
            go_ret
            exact ⟨rfl, HF9.out.below (Nat.le_refl _) (by simp)⟩
      · have t1 : decide ((20 : Int) < (l.length : Int)) = true := by simp; omega
        rw [hk1] at b0
        go_wp2
        go_ret
        exact ⟨rfl, HF2.out.below (Nat.le_refl _) (by simp)⟩
    · have t3 : (q.kind == 1) = false := by simpa using hk1
      go_wp2
      go_ret
      exact ⟨rfl, HF2.out.below (Nat.le_refl _) (by simp)⟩
  · have t3 : (E == 0) = false := by simpa using hE0
    go_wp2
    go_ret
    exact ⟨rfl, HF2.out.below (Nat.le_refl _) (by simp)⟩

set_option maxRecDepth 100000 in
theorem contract (H : Type) (enc : TypeId × Value → H) (W : World) (base : Nat) (args : Array Value) (ds gs : List (DataW H)) (before : List MemPlace)
    (hval0 : ∀ (j : Nat) t v, Try.f4.params[j]? = some t → args[j]? = some v → Value.okWide Try.prog W .any base t v)
    (hW : DataW.Whole enc Try.prog Try.f4.params.toList Rows.txnChangesSpec.vars false W args.toList ds gs before) :
    Calls Try.prog 4 args W fun e W' => ∃ v, e = .returned v ∧ Rows.txnChangesSpec.post enc Try.prog Try.f4 false true false false W args v W' := by
  have hval : ∀ (j : Nat) t v, Try.f4.params[j]? = some t → args[j]? = some v → Value.okWide Try.prog W .any base t v := hval0
  have hW' := hW
  obtain ⟨p, q, hA0, hV, rfl, hfz, hnd⟩ := hW
  have hA : DataW.TrodAll enc Try.prog W 0 (fun _ => true) true Try.f4.params.toList args.toList ds p := hA0
  rw [Try.params4] at hA hval
  obtain ⟨v0, vs0, d0, ds0, p0, q0, hargs, rfl, rfl, h0, r0⟩ := trodAll_cons hA
  obtain ⟨v1, vs1, d1, ds1, p1, q1, rfl, rfl, rfl, h1, r1⟩ := trodAll_cons r0
  obtain ⟨rfl, rfl, rfl⟩ := trodAll_nil r1
  obtain rfl : args = #[v0, v1] := by cases args; simp_all
  obtain ⟨rfl, rfl⟩ := trodVars_none hV
  have k0 := h0
  have lt0 : ∀ x ∈ p0, x.block < W.heap.size := by obtain ⟨m, hm⟩ := k0; exact DataW.trod_lt m _ _ _ hm
  have k1 := h1
  have lt1 : ∀ x ∈ p1, x.block < W.heap.size := by obtain ⟨m, hm⟩ := k1; exact DataW.trod_lt m _ _ _ hm
  obtain ⟨q, cv, tv, ev, rfl, hq⟩ := open_req (hval 0 28 v0 rfl rfl) h0
  obtain ⟨l, hl⟩ := open_ops (hval 1 26 v1 rfl rfl) h1
  clear hA0 hval0 hval
  refine (walk v1 q l cv tv ev W hq hl).mono fun e W' ⟨he, bel⟩ => ?_
  subst he
  exact ⟨_, rfl, _, _, _, [], _, [], hW', trodAll_mk1 (shut_bool Try.underlying4 _), (trodAll_cons_mk (Below.trod laid_prog (by kernel_rfl) (of_decide_eq_true (by kernel_rfl)) k0 bel lt0) (trodAll_cons_mk (Below.trod laid_prog (by kernel_rfl) (of_decide_eq_true (by kernel_rfl)) k1 bel lt1) trodAll_mk0)), rfl, bel.frame _, fun h => by cases h⟩

set_option maxRecDepth 100000 in
theorem lifted (os : Os) (started : os.Started) (H : Type) (enc : TypeId × Value → H) :
    ReturnsInHanded {} Try.checked os 4 .any (Rows.txnChangesSpec.pre6 enc Try.prog Try.f4 Rows.txnChangesRow.domain false) (Rows.txnChangesSpec.post enc Try.prog Try.f4 false true false false) := by
  refine returnsInHanded_of_change (C := Try.checked) own_prog started (by kernel_rfl) Try.func4
    (ChangeSpec.witness6 (enc := enc) (C := Try.checked) false ⟨#[], #[.agg #[.int .i64 0, .string ⟨#[]⟩, .string ⟨#[]⟩, .int .i64 0, .slice none 0 0, .slice none 0 0, .slice none 0 0], .slice none 0 0], []⟩ 8 (by kernel_rfl) (by kernel_rfl) (by kernel_rfl) (by kernel_rfl)) ?_
  intro W base args ds gs before hval hW _ _
  exact contract H enc W base args ds gs before hval hW

theorem proved : Rows.TxnChangesSaid :=
  OpenClaim.holds_of_wide 4 Try.f4 rfl rfl rfl rfl rfl rfl rfl ⟨rfl, rfl, rfl, rfl, rfl⟩ rfl rfl rfl rfl rfl (by kernel_rfl) Try.func4 (by kernel_rfl)
    (of_decide_eq_true (by kernel_rfl)) (by unfold Func.isWrapper; first | (rw [if_pos (by decide +kernel)]; kernel_rfl) | (rw [if_neg (by decide +kernel)]; exact ⟨rfl, rfl⟩))
    (fun os started H enc _ => lifted os started H enc)

end Go.Proofs.Ytjclbgeclopheaa.lawTxnChanges
