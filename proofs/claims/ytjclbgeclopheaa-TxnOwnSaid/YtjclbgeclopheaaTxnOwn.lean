/- What a transaction does hangs on its own keys alone: for every map and every request. No condition. -/
import Derived.Test.YtjclbgeclopheaaTxAwake
import Derived.Test.YtjclbgeclopheaaTxLaw
import Derived.Test.YtjclbgeclopheaaEvMap
import Derived.Test.YtjclbgeclopheaaHsRef
namespace Go.Proofs.Ytjclbgeclopheaa.lawTxnOwn
open Go.ChangeShapes Go.WideShapes Go.ChangeAt Go.RowKit Go.Deep Go.ChangeMaps
set_option linter.unusedVariables false
set_option linter.unusedSimpArgs false

set_option maxRecDepth 100000 in
set_option maxHeartbeats 4000000 in
theorem walk (mv : Value) (m : List Kv) (q : Rq) (cv tv ev : Value) (w : World) (hm : KvIn w mv m) (hq : RqIn w q cv tv ev) :
    Calls Try.prog 3 #[mv, .agg #[.int .i64 q.kind, .string q.f, .string q.t, .int .i64 q.rev, cv, tv, ev]] w fun e w' => e = .returned (.bool true) ∧ Below w.heap.size w w' := by
  have HM := Lib.hid hm
  have HQ := Lib.hid hq
  obtain ⟨s1, c1, rfl, la1, ma1⟩ := hm.form
  obtain ⟨s2, c2, rfl, la2, ma2⟩ := LIn.form hq.c
  obtain ⟨s3, c3, rfl, la3, ma3⟩ := LIn.form hq.t
  obtain ⟨s4, c4, rfl, la4, ma4⟩ := LIn.form hq.e
  unfold maxLen at ma1 ma2 ma3 ma4
  clear hm hq
  obtain ⟨fb, hfb⟩ : ∃ fb, fb = (decide (q.cmps.length ≤ 20) && decide (q.thn.length ≤ 20) && decide (q.els.length ≤ 20)) := ⟨_, rfl⟩
  have HFEW : Hid (∀ X, Fr [] w X → Calls Try.prog 9 #[.agg #[.int .i64 q.kind, .string q.f, .string q.t, .int .i64 q.rev, .slice s2 q.cmps.length c2, .slice s3 q.thn.length c3, .slice s4 q.els.length c4]] X fun e w' => e = .returned (.bool fb) ∧ Fr [] X w') := Lib.hid (fun X hX => by rw [hfb]; exact tfew_any q _ _ _ X (HQ.out.keep0 hX))
  have HMAP : Hid (∀ X, Fr [] w X → Calls Try.prog 10 #[.slice s1 m.length c1] X fun e w' => e = .returned (.bool (mapB m)) ∧ Fr [] X w') := Lib.hid (fun X hX => rmap_any _ m X (LIn.keep0 HM.out hX))
  obtain ⟨mb, hmb⟩ : ∃ mb, mb = mapB m := ⟨_, rfl⟩
  rw [← hmb] at HMAP
  have hgo : (decide ((60 : Int) < (m.length : Int)) = false ∧ m.length ≤ 60) ∨ decide ((60 : Int) < (m.length : Int)) = true := by
    by_cases h : m.length ≤ 60
    · exact Or.inl ⟨by simp; omega, h⟩
    · exact Or.inr (by simp; omega)
  have HFB := Lib.hid hfb
  have HMBB : Hid (mb = mapB m) := Lib.hid hmb
  clear hfb hmb
  have HBQ : Hid ((w.alloc (.cells #[.int .i64 q.kind, .string q.f, .string q.t, .int .i64 q.rev, .slice s2 q.cmps.length c2, .slice s3 q.thn.length c3, .slice s4 q.els.length c4] 28)).heap[w.heap.size]? = some (.cells #[.int .i64 q.kind, .string q.f, .string q.t, .int .i64 q.rev, .slice s2 q.cmps.length c2, .slice s3 q.thn.length c3, .slice s4 q.els.length c4] 28 (0, 0))) := Lib.hid (new_block _ _)
  have HF0 : Hid (Fr [] w (w.alloc (.cells #[.int .i64 q.kind, .string q.f, .string q.t, .int .i64 q.rev, .slice s2 q.cmps.length c2, .slice s3 q.thn.length c3, .slice s4 q.els.length c4] 28))) := Lib.hid ((Fr.refl [] w).alloc _)
  have HZ0 : Hid ((w.alloc (.cells #[.int .i64 q.kind, .string q.f, .string q.t, .int .i64 q.rev, .slice s2 q.cmps.length c2, .slice s3 q.thn.length c3, .slice s4 q.els.length c4] 28)).heap.size = w.heap.size + 1) := Lib.hid (by simp)
  go_enter Try.func3, Try.ntmps3
  go_wp2_with fail
  generalize w.alloc (.cells #[.int .i64 q.kind, .string q.f, .string q.t, .int .i64 q.rev, .slice s2 q.cmps.length c2, .slice s3 q.thn.length c3, .slice s4 q.els.length c4] 28) = w0 at *
  go_wp2_with (go_at_call 8; refine (tx_awake _).mono ?_; rintro e w1 ⟨rfl, h1⟩; refine go_stop ?_)
  unfold Stop
  have HF1 := Lib.hid (HF0.out.trans h1 (by simp))
  have HB1 := Lib.hid (h1.keep HBQ.out (by simp))
  obtain ⟨b0, b1, b2, b3, b4, b5, b6, _⟩ := cells7 HB1.out
  clear h1 HBQ
  go_wp2_with (go_at_call 9; refine (HFEW.out _ HF1.out).mono ?_; rintro e w2 ⟨rfl, h2⟩; refine go_stop ?_)
  unfold Stop
  have HF2 := Lib.hid (HF1.out.trans h2 (by simp))
  have HB2 := Lib.hid (h2.keep HB1.out (by simp))
  clear h2 HB1 b0 b1 b2 b3 b4 b5 b6
  cases fb
  · go_wp2
    go_ret
    exact ⟨rfl, HF2.out.below (Nat.le_refl _) (by simp)⟩
  · rcases hgo with ⟨t1, h60⟩ | t1
    · go_wp2_with (go_at_call 10; refine (HMAP.out _ HF2.out).mono ?_; rintro e w3 ⟨rfl, h3⟩; refine go_stop ?_)
      unfold Stop
      have HF3 := Lib.hid (HF2.out.trans h3 (by simp))
      have HB3 := Lib.hid (h3.keep HB2.out (by simp))
      clear h3 HB2
      cases mb
      · go_wp2
        go_ret
        exact ⟨rfl, HF3.out.below (Nat.le_refl _) (by simp)⟩
      · obtain ⟨b0, b1, b2, b3, b4, b5, b6, _⟩ := cells7 HB3.out
        have hfew : q.cmps.length ≤ 20 ∧ q.thn.length ≤ 20 ∧ q.els.length ≤ 20 := by
          have := HFB.out
          simp only [Bool.true_eq, Bool.and_eq_true, decide_eq_true_eq] at this
          exact ⟨this.1.1, this.1.2, this.2⟩
        obtain ⟨f1, f2, f3⟩ := hfew
        go_wp2_with (go_at_call 11; refine (txn_keys q _ _ _ _ (HQ.out.keep0 HF3.out) f1 f2 f3).mono ?_; rintro e w4 ⟨v4, ks, rfl, hst, hko, hkl, h4⟩; refine go_stop ?_)
        unfold Stop
        obtain ⟨s5, c5, rfl, la5, ma5⟩ := LIn.form hst
        unfold maxLen at ma5
        have HST := Lib.hid hst
        have HKO := Lib.hid hko
        have HF4 := Lib.hid (HF3.out.trans h4 (by simp))
        have HB4 := Lib.hid (h4.keep HB3.out (by simp))
        clear h4 hst hko HB3 b0 b1 b2 b3 b4 b5 b6
        have HGET : Hid (∀ X k, Fr [] w X → Calls Try.prog 12 #[.slice s1 m.length c1, .string k] X fun e w' => e = .returned (.tuple #[.agg #[.string (getZ k m).key, .string (getZ k m).val, .int .i64 (getZ k m).rev], .bool (getK k m).isSome]) ∧ Fr [] X w') := Lib.hid (fun X k hX => rget_any _ m k X (LIn.keep0 HM.out hX) (by unfold many; omega))
        have c2' := @run_geq Try.prog
        go_wp2_with fail
        go_loopw [7, 8] (fun v i wr => ∃ (j : Nat), i = .int .i64 j ∧ j ≤ ks.length ∧ OutAt Kv.cells 35 3 w4 wr v (ownK m (ks.take j)) ∧ Fr [] w4 wr) (fun _ i _ => ks.length - (intOf i).toNat)
        case atStart => exact ⟨0, rfl, Nat.zero_le _, OutAt.nil _ _, Fr.refl _ _⟩
        case round =>
          obtain ⟨j, rfl, hj, ho, hf⟩ := hrel
          have HO := Lib.hid ho
          have HF5 := Lib.hid hf
          clear ho hf
          by_cases h : j < ks.length
          · obtain ⟨k, hk⟩ : ∃ k, ks[j]? = some k := ⟨_, List.getElem?_eq_getElem h⟩
            obtain ⟨g, off, d1, e1, _, l1, k1⟩ := StIn.here (LIn.keep0 HST.out HF5.out) (by omega)
            simp only [Value.slice.injEq] at e1
            obtain ⟨rfl, _, rfl⟩ := e1
            have p0 := k1 j k hk
            have t2 : decide ((j : Int) < (ks.length : Int)) = true := by simp; omega
            have hol : (ownK m (ks.take j)).length ≤ 60 := by
              have h1 := own_len m (ks.take j)
              rw [List.length_take] at h1; omega
            have HSN : Hid (ownK m (ks.take (j + 1)) = ownK m (ks.take j) ++ (getK k m).toList) := Lib.hid (by
              rw [List.take_add_one, hk]; exact own_snoc m _ k)
            have HG := Lib.hid (fun X (hX : Fr [] w X) => HGET.out X k hX)
            have HZB : Hid (∀ b, b = (getK k m).isSome → (b = false → getK k m = none) ∧ (b = true → getK k m = some (getZ k m))) := Lib.hid (fun b hb => by
              unfold getZ
              cases hg : getK k m with
              | none => rw [hg] at hb; simp at hb; subst hb; simp
              | some z => rw [hg] at hb; simp at hb; subst hb; simp)
            have HKK := Lib.hid hk
            obtain ⟨b, hb⟩ : ∃ b, b = (getK k m).isSome := ⟨_, rfl⟩
            have HB9 := Lib.hid (HZB.out b hb)
            rw [← hb] at HG
            obtain ⟨z, hz⟩ : ∃ z, z = getZ k m := ⟨_, rfl⟩
            rw [← hz] at HG HB9
            have HREAD : Hid (∀ X, Fr [] wr X → ∀ i x, ks[i]? = some x → X.cell? ⟨g, off + i, none⟩ = some (.string x)) := Lib.hid (fun X hX i x hx => hX.cell (k1 i x hx) (by simp))
            clear hk k1 hb hz HZB
            go_wp2_with (go_at_call 12; refine (HG.out _ (HF4.out.trans HF5.out (by simp))).mono ?_; rintro e w5 ⟨rfl, h5⟩; refine go_stop ?_)
            unfold Stop
            have hal : Fr [] w5 (w5.alloc (.cells #[.string z.key, .string z.val, .int .i64 z.rev] 35)) := (Fr.refl [] w5).alloc _
            have HZ : Hid ((w5.alloc (.cells #[.string z.key, .string z.val, .int .i64 z.rev] 35)).heap[w5.heap.size]? = some (.cells #[.string z.key, .string z.val, .int .i64 z.rev] 35 (0, 0))) := Lib.hid (new_block _ _)
            have HFZ := Lib.hid (h5.trans hal (by simp))
            have HOZ := Lib.hid (HO.out.keep HFZ.out)
            have HSZ : Hid ((w5.alloc (.cells #[.string z.key, .string z.val, .int .i64 z.rev] 35)).heap.size = w5.heap.size + 1) := Lib.hid (by simp)
            clear h5 hal p0
            go_wp2_with fail
            generalize w5.alloc (.cells #[.string z.key, .string z.val, .int .i64 z.rev] 35) = wz at *
            generalize w5.heap.size = bz at *
            obtain ⟨z0, z1, z2, _⟩ := cells3 HZ.out
            have p0 := HREAD.out wz HFZ.out j k HKK.out
            have hmid : ∀ (nq : Nat), Hid (OutAt Kv.cells 35 3 w4 (wz.drewN nq) u7 (ownK m (ks.take j))) := fun nq => Lib.hid (HOZ.out.keep ((Fr.refl [] wz).drewN nq))
            have HMID := Lib.hid hmid
            have HF6 := Lib.hid (HF5.out.trans HFZ.out (by simp))
            clear hmid
            by_cases hj0 : j = 0
            focus
              have t3 : decide (0 < j) = false := by simp; omega
              clear hj0
              go_quiet (fail)
            rotate_left
            focus
              obtain ⟨i, hi⟩ : ∃ i, j = i + 1 := ⟨j - 1, by omega⟩
              obtain ⟨kp, hkp⟩ : ∃ kp, ks[i]? = some kp := ⟨_, List.getElem?_eq_getElem (by omega)⟩
              have q0 := HREAD.out wz HFZ.out i kp hkp
              have hkl2 := rise_len HKO.out.rise hkp (by rw [← hi]; exact HKK.out)
              have hE2 : Op.bytesLess kp.toList k.toList = true := hkl2
              have t3 : decide (0 < j) = true := by simp; omega
              have w1 : IntKind.i64.wrap ((j : Int) - 1) = (i : Int) := by rw [IntWalk.i64_in _ ⟨by omega, by omega⟩]; omega
              have w2 : (j : Int) - 1 = (i : Int) := by omega
              have w3 : ((j : Int) - 1).toNat = i := by omega
              have b1 : (j : Int) < (ks.length : Int) := by omega
              have b2 : (i : Int) < (ks.length : Int) := by omega
              clear hkp hkl2 hi hj0
              go_quiet (fail)
              clear w1 w2 w3 b1 b2 hE2 q0
            all_goals
              have HF7 := Lib.hid ((HF6.out).drewN nq)
              have HO7 := HMID.out nq
              cases b
              focus
                have HEQ : Hid (ownK m (ks.take (j + 1)) = ownK m (ks.take j)) := Lib.hid (by rw [HSN.out, HB9.out.1 rfl]; simp)
                go_wp2
                go_roundw
                case rel => exact ⟨j + 1, by go_num, by omega, by rw [HEQ.out]; exact HO7.out, HF7.out⟩
                case measure => simp [intOf]; omega
            all_goals
              have HEQ : Hid (ownK m (ks.take (j + 1)) = ownK m (ks.take j) ++ [z]) := Lib.hid (by rw [HSN.out, HB9.out.2 rfl]; rfl)
              go_wp2_with (at_builtin; refine wpList_append_any rfl (.tmp 62) (.tmp 64) 22 35 (.agg #[.string ⟨#[]⟩, .string ⟨#[]⟩, .int .i64 0]) 3 40 rfl kv_slice kv_info rfl (by decide) u7 (ownK m (ks.take j)).length (allC Kv.cells (ownK m (ks.take j))) rfl (HO7.out.lies.keep0 ((Fr.refl [] (wz.drewN nq)).alloc (.cells z.cells.toArray 35))) _ 1 z.cells rfl (lies_row (wz.drewN nq) 35 z.cells rfl _ rfl) z.cone (by unfold maxLen; omega) (by omega) ?app)
              case app =>
              intro v' w' h1 h2 h3
              have ha := HO7.out.keep ((Fr.refl [] (wz.drewN nq)).alloc (.cells z.cells.toArray 35))
              have HO8 := Lib.hid (OutAt.app ha (B := wz.heap.size + 1) (by have := HF6.out.size; omega) (xs := [z]) (by rw [allC_one]; exact h1) rfl h3)
              have HF8 := Lib.hid (OutAt.fr ha (HF7.out.alloc _) h2)
              clear h1 h2 h3 ha
              go_wp2_with fail
              go_roundw
              case rel => exact ⟨j + 1, by go_num, by omega, by rw [HEQ.out]; exact HO8.out, HF8.out⟩
              case measure => simp [intOf]; omega
          · have t2 : decide ((j : Int) < (ks.length : Int)) = false := by simp; omega
            obtain rfl : j = ks.length := by omega
            have hown : OutAt Kv.cells 35 3 w4 wr u7 (ownK m ks) := by have := HO.out; rwa [List.take_length] at this
            have HOW := Lib.hid hown
            have hext := keysOk_own (m := m) HKO.out
            have HEXT := Lib.hid hext
            have hol : (ownK m ks).length ≤ 60 := Nat.le_trans (own_len m ks) hkl
            obtain ⟨s7, c7, rfl, _, _⟩ := LAt.form hown.lies
            have HPL : Hid (∀ X u l, Fr [] w X → KvIn X u l → Srt Kv.key l → l.length ≤ 60 → Calls Try.prog 13 #[u, .agg #[.int .i64 q.kind, .string q.f, .string q.t, .int .i64 q.rev, .slice s2 q.cmps.length c2, .slice s3 q.thn.length c3, .slice s4 q.els.length c4]] X fun e w' => ∃ v, e = .returned (.tuple #[.bool (holdsC l q.cmps), v]) ∧ OdIn w' v (planL l q) ∧ Fr [] X w') := Lib.hid (fun X u l hX hu hsl hl => by
              refine (txn_plan u l q _ _ _ X hu hsl (HQ.out.keep0 hX) (by unfold many; omega) (by unfold many; omega) (by unfold many; omega) (by unfold many; omega)).mono ?_
              rintro e w' ⟨v, rfl, h1, _, h3⟩
              exact ⟨v, rfl, h1, h3⟩)
            have HB5 := Lib.hid (HF5.out.keep HB4.out (by simp))
            have HF6 := Lib.hid (HF4.out.trans HF5.out (by simp))
            obtain ⟨b0, b1, b2, b3, b4, b5, b6, _⟩ := cells7 HB5.out
            clear hown hext HO
            go_wp2_with (go_at_call 13; refine go_stop ?_)
            unfold Stop
            refine (HPL.out _ _ m HF6.out (LIn.keep0 HM.out HF6.out) (mapB_srt.1 HMBB.out.symm) h60).mono ?_
            rintro e w8 ⟨v8, rfl, h8, hf8⟩
            obtain ⟨s8, c8, rfl, _, _⟩ := LIn.form h8
            have H8 := Lib.hid h8
            have HF8 := Lib.hid (HF6.out.trans hf8 (by simp))
            have HOW8 := Lib.hid (LAt.read (HOW.out.keep hf8).lies Kv.clen)
            have HB8 := Lib.hid (hf8.keep HB5.out (by simp))
            clear b0 b1 b2 b3 b4 b5 b6 hf8 h8
            obtain ⟨b0, b1, b2, b3, b4, b5, b6, _⟩ := cells7 HB8.out
            go_wp2_with (go_at_call 13; refine go_stop ?_)
            unfold Stop
            refine (HPL.out _ _ (ownK m ks) HF8.out HOW8.out (srt_own HKO.out.rise) hol).mono ?_
            rintro e w9 ⟨v9, rfl, h9, hf9⟩
            rw [← HEXT.out.1]
            rw [← HEXT.out.2] at h9
            obtain ⟨s9, c9, rfl, _, _⟩ := LIn.form h9
            have H9 := Lib.hid h9
            have HF9 := Lib.hid (HF8.out.trans hf9 (by simp))
            have H89 := Lib.hid (LIn.keep0 H8.out hf9)
            obtain ⟨hb, hhb⟩ : ∃ hb, hb = holdsC m q.cmps := ⟨_, rfl⟩
            rw [← hhb]
            have hbb : (hb == hb) = true := by simp
            clear b0 b1 b2 b3 b4 b5 b6 hf9 h9 hhb
            go_wp2_with (go_at_call 14; refine (rops_any _ _ (planL m q) (planL m q) _ H89.out H9.out).mono ?_; rintro e w10 ⟨rfl, h10⟩; rw [(sameB_eq odB_eq).2 rfl]; refine go_stop ?_)
            unfold Stop
            have HF10 := Lib.hid (HF9.out.trans h10 (by simp))
            clear h10
            go_wp2
            go_ret
            exact ⟨rfl, HF10.out.below (Nat.le_refl _) (by simp)⟩
    · go_wp2
      go_ret
      exact ⟨rfl, HF2.out.below (Nat.le_refl _) (by simp)⟩

set_option maxRecDepth 100000 in
theorem contract (H : Type) (enc : TypeId × Value → H) (W : World) (base : Nat) (args : Array Value) (ds gs : List (DataW H)) (before : List MemPlace)
    (hval0 : ∀ (j : Nat) t v, Try.f3.params[j]? = some t → args[j]? = some v → Value.okWide Try.prog W .any base t v)
    (hW : DataW.Whole enc Try.prog Try.f3.params.toList Rows.txnOwnSpec.vars false W args.toList ds gs before) :
    Calls Try.prog 3 args W fun e W' => ∃ v, e = .returned v ∧ Rows.txnOwnSpec.post enc Try.prog Try.f3 false true false false W args v W' := by
  have hval : ∀ (j : Nat) t v, Try.f3.params[j]? = some t → args[j]? = some v → Value.okWide Try.prog W .any base t v := hval0
  have hW' := hW
  obtain ⟨p, q, hA0, hV, rfl, hfz, hnd⟩ := hW
  have hA : DataW.TrodAll enc Try.prog W 0 (fun _ => true) true Try.f3.params.toList args.toList ds p := hA0
  rw [Try.params3] at hA hval
  obtain ⟨v0, vs0, d0, ds0, p0, q0, hargs, rfl, rfl, h0, r0⟩ := trodAll_cons hA
  obtain ⟨v1, vs1, d1, ds1, p1, q1, rfl, rfl, rfl, h1, r1⟩ := trodAll_cons r0
  obtain ⟨rfl, rfl, rfl⟩ := trodAll_nil r1
  obtain rfl : args = #[v0, v1] := by cases args; simp_all
  obtain ⟨rfl, rfl⟩ := trodVars_none hV
  have k0 := h0
  have lt0 : ∀ x ∈ p0, x.block < W.heap.size := by obtain ⟨m, hm⟩ := k0; exact DataW.trod_lt m _ _ _ hm
  have k1 := h1
  have lt1 : ∀ x ∈ p1, x.block < W.heap.size := by obtain ⟨m, hm⟩ := k1; exact DataW.trod_lt m _ _ _ hm
  obtain ⟨m, hm⟩ := open_kvs (hval 0 22 v0 rfl rfl) h0
  obtain ⟨q, cv, tv, ev, rfl, hq⟩ := open_req (hval 1 28 v1 rfl rfl) h1
  clear hA0 hval0 hval
  refine (walk v0 m q cv tv ev W hm hq).mono fun e W' ⟨he, bel⟩ => ?_
  subst he
  exact ⟨_, rfl, _, _, _, [], _, [], hW', trodAll_mk1 (shut_bool Try.underlying4 _), (trodAll_cons_mk (Below.trod laid_prog (by kernel_rfl) (of_decide_eq_true (by kernel_rfl)) k0 bel lt0) (trodAll_cons_mk (Below.trod laid_prog (by kernel_rfl) (of_decide_eq_true (by kernel_rfl)) k1 bel lt1) trodAll_mk0)), rfl, bel.frame _, fun h => by cases h⟩

set_option maxRecDepth 100000 in
theorem lifted (os : Os) (started : os.Started) (H : Type) (enc : TypeId × Value → H) :
    ReturnsInHanded {} Try.checked os 3 .any (Rows.txnOwnSpec.pre6 enc Try.prog Try.f3 Rows.txnOwnRow.domain false) (Rows.txnOwnSpec.post enc Try.prog Try.f3 false true false false) := by
  refine returnsInHanded_of_change (C := Try.checked) own_prog started (by kernel_rfl) Try.func3
    (ChangeSpec.witness6 (enc := enc) (C := Try.checked) false ⟨#[], #[.slice none 0 0, .agg #[.int .i64 0, .string ⟨#[]⟩, .string ⟨#[]⟩, .int .i64 0, .slice none 0 0, .slice none 0 0, .slice none 0 0]], []⟩ 8 (by kernel_rfl) (by kernel_rfl) (by kernel_rfl) (by kernel_rfl)) ?_
  intro W base args ds gs before hval hW _ _
  exact contract H enc W base args ds gs before hval hW

theorem proved : Rows.TxnOwnSaid :=
  OpenClaim.holds_of_wide 3 Try.f3 rfl rfl rfl rfl rfl rfl rfl ⟨rfl, rfl, rfl, rfl, rfl⟩ rfl rfl rfl rfl rfl (by kernel_rfl) Try.func3 (by kernel_rfl)
    (of_decide_eq_true (by kernel_rfl)) (by unfold Func.isWrapper; first | (rw [if_pos (by decide +kernel)]; kernel_rfl) | (rw [if_neg (by decide +kernel)]; exact ⟨rfl, rfl⟩))
    (fun os started H enc _ => lifted os started H enc)

end Go.Proofs.Ytjclbgeclopheaa.lawTxnOwn
