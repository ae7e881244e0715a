/- What an entry does hangs on its own keys alone: for every request, every list of keys' values and every head. No condition. -/
import Derived.Test.YtmipllkgioakoaaFrLaw
namespace Go.Proofs.Ytmipllkgioakoaa.lawFrontOwn
open Go.ChangeShapes Go.WideShapes Go.ChangeAt Go.RowKit Go.Deep Go.ChangeMaps
set_option linter.unusedVariables false
set_option linter.unusedSimpArgs false

set_option maxRecDepth 100000 in
set_option maxHeartbeats 4000000 in
theorem walk (q : Rq) (cv tv ev mv : Value) (m : List Kv) (s r h : Int) (w : World) (hq : RqIn w q cv tv ev) (hm : KvIn w mv m) (whd : IsI s ∧ IsI r ∧ IsI h) :
    Calls Try.prog 3 #[.agg #[.int .i64 q.kind, .string q.f, .string q.t, .int .i64 q.rev, cv, tv, ev], mv, .agg #[.int .i64 s, .int .i64 r, .int .i64 h]] w fun e w' => e = .returned (.bool true) ∧ Below w.heap.size w w' := by
  obtain ⟨s1, c1, rfl, la1, ma1⟩ := LIn.form hq.c
  obtain ⟨s2, c2, rfl, la2, ma2⟩ := LIn.form hq.t
  obtain ⟨s3, c3, rfl, la3, ma3⟩ := LIn.form hq.e
  obtain ⟨sm, cm, rfl, lam, mam⟩ := LIn.form hm
  unfold maxLen at ma1 ma2 ma3 mam
  have HM := Lib.hid hm
  have HQ := Lib.hid hq
  have HIS := Lib.hid whd
  clear hm hq whd
  have hgo : (decide ((60 : Int) < (m.length : Int)) = false ∧ m.length ≤ 60) ∨ decide ((60 : Int) < (m.length : Int)) = true := by
    by_cases h : m.length ≤ 60
    · exact Or.inl ⟨by simp; omega, h⟩
    · exact Or.inr (by simp; omega)
  obtain ⟨w0, hw0⟩ : ∃ w0, w0 = (w.alloc (.cells #[.int .i64 q.kind, .string q.f, .string q.t, .int .i64 q.rev, .slice s1 q.cmps.length c1, .slice s2 q.thn.length c2, .slice s3 q.els.length c3] 27)).alloc (.cells #[.int .i64 s, .int .i64 r, .int .i64 h] 30) := ⟨_, rfl⟩
  have h0 := two_new w (.cells #[.int .i64 q.kind, .string q.f, .string q.t, .int .i64 q.rev, .slice s1 q.cmps.length c1, .slice s2 q.thn.length c2, .slice s3 q.els.length c3] 27) (.cells #[.int .i64 s, .int .i64 r, .int .i64 h] 30)
  rw [← hw0] at h0
  have HW0 := Lib.hid hw0
  have HBQ := Lib.hid h0.1
  have HBH := Lib.hid h0.2.1
  have HF0 := Lib.hid h0.2.2.1
  have HZ0 := Lib.hid h0.2.2.2
  clear h0 hw0
  obtain ⟨fb, hfb⟩ : ∃ fb, fb = (decide (q.cmps.length ≤ 20) && decide (q.thn.length ≤ 20) && decide (q.els.length ≤ 20)) := ⟨_, rfl⟩
  have HFEW : Hid (∀ X, Fr [] w X → Calls Try.prog 7 #[.agg #[.int .i64 q.kind, .string q.f, .string q.t, .int .i64 q.rev, .slice s1 q.cmps.length c1, .slice s2 q.thn.length c2, .slice s3 q.els.length c3]] X fun e w' => e = .returned (.bool fb) ∧ Fr [] X w') := Lib.hid (fun X hX => by rw [hfb]; exact ffew_any q _ _ _ X (HQ.out.keep0 hX))
  have HMAP : Hid (∀ X, Fr [] w X → Calls Try.prog 8 #[.slice sm m.length cm] X fun e w' => e = .returned (.bool (mapB m)) ∧ Fr [] X w') := Lib.hid (fun X hX => rmap_any _ m X (LIn.keep0 HM.out hX))
  obtain ⟨mb, hmb⟩ : ∃ mb, mb = mapB m := ⟨_, rfl⟩
  rw [← hmb] at HMAP
  have HFB := Lib.hid hfb
  have HMBB : Hid (mb = mapB m) := Lib.hid hmb
  clear hfb hmb
  have his := HIS.out
  unfold IsI at his
  have hbd : (decide ((1099511627776 : Int) < r) = false ∧ decide ((1099511627776 : Int) < h) = false ∧ decide (h < (-1099511627776 : Int)) = false ∧ r ≤ 1099511627776 ∧ h ≤ 1099511627776 ∧ -1099511627776 ≤ h) ∨ (decide ((1099511627776 : Int) < r) = true) ∨ (decide ((1099511627776 : Int) < r) = false ∧ decide ((1099511627776 : Int) < h) = true) ∨ (decide ((1099511627776 : Int) < r) = false ∧ decide ((1099511627776 : Int) < h) = false ∧ decide (h < (-1099511627776 : Int)) = true) := by
    simp only [decide_eq_false_iff_not, decide_eq_true_eq]; omega
  clear his
  go_enter Try.func3, Try.ntmps3
  go_wp2_with (go_at_call 6; rw [← HW0.out]; refine (fr_awake _).mono ?_; rintro e w1 ⟨rfl, hf⟩; refine go_stop ?_)
  unfold Stop
  have HF1 := Lib.hid (HF0.out.trans hf (by simp))
  have HQ1 := Lib.hid (hf.keep HBQ.out (by simp))
  have HH1 := Lib.hid (hf.keep HBH.out (by simp))
  have HZ1 : Hid (w.heap.size + 2 ≤ w1.heap.size) := Lib.hid (by have := hf.size; have := HZ0.out; omega)
  clear hf HBQ HBH
  obtain ⟨b0, b1, b2, b3, b4, b5, b6, _⟩ := cells7 HQ1.out
  obtain ⟨g0, g1, g2, _⟩ := cells3 HH1.out
  go_wp2_with (go_at_call 7; refine (HFEW.out _ HF1.out).mono ?_; rintro e w2 ⟨rfl, hf⟩; refine go_stop ?_)
  unfold Stop
  have HF2 := Lib.hid (HF1.out.trans hf (by simp))
  have HQ2 := Lib.hid (hf.keep HQ1.out (by simp))
  have HH2 := Lib.hid (hf.keep HH1.out (by simp))
  have HZ2 : Hid (w.heap.size + 2 ≤ w2.heap.size) := Lib.hid (Nat.le_trans HZ1.out hf.size)
  clear hf HQ1 HH1 b0 b1 b2 b3 b4 b5 b6 g0 g1 g2 HFEW
  cases fb
  · go_wp2
    go_ret
    exact ⟨rfl, HF2.out.below (Nat.le_refl _) (by simp)⟩
  rcases hgo with ⟨t1, h60⟩ | t1
  rotate_left
  · go_wp2
    go_ret
    exact ⟨rfl, HF2.out.below (Nat.le_refl _) (by simp)⟩
  go_wp2_with (go_at_call 8; refine (HMAP.out _ HF2.out).mono ?_; rintro e w3 ⟨rfl, hf⟩; refine go_stop ?_)
  unfold Stop
  have HF3 := Lib.hid (HF2.out.trans hf (by simp))
  have HQ3 := Lib.hid (hf.keep HQ2.out (by simp))
  have HH3 := Lib.hid (hf.keep HH2.out (by simp))
  have HZ3 : Hid (w.heap.size + 2 ≤ w3.heap.size) := Lib.hid (Nat.le_trans HZ2.out hf.size)
  clear hf HQ2 HH2 HMAP
  obtain ⟨b0, b1, b2, b3, b4, b5, b6, _⟩ := cells7 HQ3.out
  obtain ⟨g0, g1, g2, _⟩ := cells3 HH3.out
  have hfew : q.cmps.length ≤ 20 ∧ q.thn.length ≤ 20 ∧ q.els.length ≤ 20 := by
    have := HFB.out
    simp only [Bool.true_eq, Bool.and_eq_true, decide_eq_true_eq] at this
    exact ⟨this.1.1, this.1.2, this.2⟩
  obtain ⟨f1, f2, f3⟩ := hfew
  cases mb
  · go_wp2
    go_ret
    exact ⟨rfl, HF3.out.below (Nat.le_refl _) (by simp)⟩
  rcases hbd with ⟨t5, t6, t7, y5, y6, y7⟩ | t5 | ⟨t5, t6⟩ | ⟨t5, t6, t7⟩
  rotate_left
  iterate 3
    · go_wp2_with fail
      go_ret
      exact ⟨rfl, HF3.out.below (Nat.le_refl _) (by simp)⟩
  have HSRT := Lib.hid (mapB_srt.1 HMBB.out.symm)
  go_wp2_with (go_at_call 9; refine (txn_keys q _ _ _ _ (HQ.out.keep0 HF3.out) f1 f2 f3).mono ?_; rintro e w4 ⟨v4, ks, rfl, hst, hko, hkl, hf⟩; obtain ⟨s5, c5, rfl, la5, ma5⟩ := LIn.form hst; refine go_stop ?_)
  unfold Stop
  unfold maxLen at ma5
  have HST := Lib.hid hst
  have HKO := Lib.hid hko
  have HF4 := Lib.hid (HF3.out.trans hf (by simp))
  have HQ4 := Lib.hid (hf.keep HQ3.out (by simp))
  have HH4 := Lib.hid (hf.keep HH3.out (by simp))
  have HKV4 := Lib.hid (LIn.keep0 HM.out HF4.out)
  clear hf hst hko HQ3 HH3 b0 b1 b2 b3 b4 b5 b6 g0 g1 g2
  go_wp2_with fail
  go_loopw [9, 10] (fun v i wr => ∃ (j : Nat), i = .int .i64 j ∧ j ≤ m.length ∧ OutAt Kv.cells 37 3 w4 wr v ((m.take j).filter (inK ks)) ∧ Fr [] w4 wr) (fun _ i _ => m.length - (intOf i).toNat)
  case atStart => exact ⟨0, rfl, Nat.zero_le _, OutAt.nil _ _, Fr.refl _ _⟩
  case round =>
    obtain ⟨j, rfl, hj, ho, hf⟩ := hrel
    obtain ⟨wM, hwM⟩ : ∃ x, x = wr := ⟨_, rfl⟩
    subst hwM
    have HO := Lib.hid ho
    have HF5 := Lib.hid hf
    clear ho hf
    by_cases hlt : j < m.length
    · obtain ⟨x, hx⟩ : ∃ x, m[j]? = some x := ⟨_, List.getElem?_eq_getElem hlt⟩
      have t2 : decide (j < m.length) = true := by simpa using hlt
      have HXX := Lib.hid hx
      have HFT := Lib.hid (filt_take hx (inK ks))
      have hol := filt_len m j (inK ks)
      have HOL : Hid (((m.take j).filter (inK ks)).length ≤ 60) := Lib.hid (by omega)
      clear hx hol
      go_wp2_with fail
      go_loopw [11, 12] (fun b i wr => ∃ (n : Nat), i = .int .i64 n ∧ n ≤ ks.length ∧ b = .bool (inK (ks.take n) x) ∧ Fr [] wM wr) (fun _ i _ => ks.length - (intOf i).toNat)
      case atStart => exact ⟨0, rfl, Nat.zero_le _, rfl, Fr.refl _ _⟩
      case round =>
        obtain ⟨n, rfl, hn, rfl, hf⟩ := hrel
        have HF6 := Lib.hid hf
        clear hf
        obtain ⟨g, off, d1, e1, hg, _, k1⟩ := KvIn.here (LIn.keep0 HKV4.out (HF5.out.trans HF6.out (by simp))) (by omega)
        cases e1
        obtain ⟨p0, p1, p2⟩ := k1 j x HXX.out
        clear k1
        obtain ⟨ib, hib⟩ : ∃ ib, inK (ks.take n) x = ib := ⟨_, rfl⟩
        rw [hib]
        have HIB := Lib.hid hib
        clear hib
        by_cases hln : n < ks.length
        · obtain ⟨k, hk⟩ : ∃ k, ks[n]? = some k := ⟨_, List.getElem?_eq_getElem hln⟩
          obtain ⟨gk, offk, d2, e2, _, _, k2⟩ := StIn.here (LIn.keep0 HST.out (HF5.out.trans HF6.out (by simp))) (by omega)
          cases e2
          have q0 := k2 n k hk
          have HSN := Lib.hid (inK_take hk x)
          have t3 : decide (n < ks.length) = true := by simpa using hln
          have a1 : (n : Int) < (ks.length : Int) := by omega
          have a2 : (j : Int) < (m.length : Int) := by omega
          clear hk k2 p1 p2
          cases ib
          focus
            cases hkx : decide (k = x.key)
            focus
              have t4 : (k.toList == x.key.toList) = false := by rw [beq_eq_false_iff_ne]; exact fun e => by simp at hkx; exact hkx (bs_inj e)
              have HV : Hid (inK (ks.take (n + 1)) x = false) := Lib.hid (by rw [HSN.out, HIB.out, hkx]; rfl)
              clear hkx
              go_wp2_with fail
              go_quiet (fail)
              go_wp2_with fail
              go_roundw
              case rel => exact ⟨n + 1, by go_num, by omega, by rw [HV.out], HF6.out.drewN _⟩
              case measure => simp [intOf]; omega
            focus
              have t4 : (k.toList == x.key.toList) = true := by simp at hkx; rw [hkx]; simp
              have HV : Hid (inK (ks.take (n + 1)) x = true) := Lib.hid (by rw [HSN.out, HIB.out, hkx]; rfl)
              clear hkx
              go_wp2_with fail
              go_quiet (fail)
              go_wp2_with fail
              go_roundw
              case rel => exact ⟨n + 1, by go_num, by omega, by rw [HV.out], HF6.out.drewN _⟩
              case measure => simp [intOf]; omega
          focus
            have HV : Hid (inK (ks.take (n + 1)) x = true) := Lib.hid (by rw [HSN.out, HIB.out]; rfl)
            go_wp2_with fail
            go_quiet (fail)
            go_wp2_with fail
            go_roundw
            case rel => exact ⟨n + 1, by go_num, by omega, by rw [HV.out], HF6.out.drewN _⟩
            case measure => simp [intOf]; omega
        · have t3 : decide (n < ks.length) = false := by simpa using hln
          have HIK : Hid (inK ks x = ib) := Lib.hid (by have := HIB.out; rwa [List.take_of_length_le (by omega)] at this)
          have HO6 := Lib.hid (HO.out.keep HF6.out)
          have HF7 := Lib.hid (HF5.out.trans HF6.out (by simp))
          cases ib
          focus
            have HEQ : Hid ((m.take (j + 1)).filter (inK ks) = (m.take j).filter (inK ks)) := Lib.hid (by rw [HFT.out, HIK.out]; simp)
            go_wp2_with fail
            go_roundw
            case rel => exact ⟨j + 1, by go_num, by omega, by rw [HEQ.out]; exact HO6.out, HF7.out⟩
            case measure => simp [intOf]; omega
          focus
            have HEQ : Hid ((m.take (j + 1)).filter (inK ks) = (m.take j).filter (inK ks) ++ [x]) := Lib.hid (by rw [HFT.out, HIK.out]; rfl)
            have hol := HOL.out
            have hz1 := HF7.out.size
            go_wp2_with (at_builtin; refine wpList_append_any rfl (.tmp 71) (.tmp 76) 28 37 (.agg #[.string ⟨#[]⟩, .string ⟨#[]⟩, .int .i64 0]) 3 40 rfl kv_slice kv_info rfl (by decide) u9 ((m.take j).filter (inK ks)).length (allC Kv.cells ((m.take j).filter (inK ks))) rfl (HO6.out.lies.keep0 ((Fr.refl [] wr).alloc (.cells x.cells.toArray 37))) _ 1 x.cells rfl (lies_row wr 37 x.cells rfl _ rfl) x.cone (by unfold maxLen; omega) (by omega) ?app)
            case app =>
            intro v' w' h1 h2 h3
            have ha := HO6.out.keep ((Fr.refl [] wr).alloc (.cells x.cells.toArray 37))
            have HO8 := Lib.hid (OutAt.app ha (B := wr.heap.size + 1) (by omega) (xs := [x]) (by rw [allC_one]; exact h1) rfl h3)
            have HF8 := Lib.hid (OutAt.fr ha (HF7.out.alloc _) h2)
            clear h1 h2 h3 ha
            go_wp2_with fail
            go_roundw
            case rel => exact ⟨j + 1, by go_num, by omega, by rw [HEQ.out]; exact HO8.out, HF8.out⟩
            case measure => simp [intOf]; omega
    · have t2 : decide (j < m.length) = false := by simpa using hlt
      have hown : OutAt Kv.cells 37 3 w4 wM u9 (m.filter (inK ks)) := by have := HO.out; rwa [List.take_of_length_le (by omega)] at this
      have HOW := Lib.hid hown
      have HOL : Hid ((m.filter (inK ks)).length ≤ 60) := Lib.hid (Nat.le_trans (List.length_filter_le _ _) h60)
      obtain ⟨s7, c7, rfl, _, _⟩ := LAt.form hown.lies
      have HDEC : Hid (∀ X u l, Fr [] w X → KvIn X u l → Srt Kv.key l → l.length ≤ 60 → decP q l r h = decP q m r h → Calls Try.prog 12 #[.agg #[.int .i64 q.kind, .string q.f, .string q.t, .int .i64 q.rev, .slice s1 q.cmps.length c1, .slice s2 q.thn.length c2, .slice s3 q.els.length c3], u, .agg #[.int .i64 s, .int .i64 r, .int .i64 h]] X fun e w' => ∃ v, e = .returned ((decP q m r h).val v) ∧ EvIn w' v (decP q m r h).rows ∧ Fr [] X w') := Lib.hid (fun X u l hX hu hsl hl he => by
        refine (fr_decide q _ _ _ u l s r h X hu hsl (HQ.out.keep0 hX) (by unfold many; omega) (by unfold many; omega) (by omega) (by omega)).mono ?_
        rw [he]
        rintro e w' ⟨v, rfl, k1, _, k2⟩
        exact ⟨v, rfl, k1, k2⟩)
      have HEQ : Hid (decP q (m.filter (inK ks)) r h = decP q m r h) := Lib.hid (decP_own HKO.out r h)
      have HSF : Hid (Srt Kv.key (m.filter (inK ks))) := Lib.hid (srt_filter HSRT.out _)
      obtain ⟨M2, hM2⟩ : ∃ x, m.filter (inK ks) = x := ⟨_, rfl⟩
      rw [hM2] at HEQ HSF HOL HOW hown ⊢
      have HD1 := Lib.hid (fun X hX hu => HDEC.out X (.slice sm m.length cm) m hX hu HSRT.out h60 rfl)
      have HD2 := Lib.hid (fun X hX hu => HDEC.out X (.slice s7 M2.length c7) M2 hX hu HSF.out HOL.out HEQ.out)
      have hd : ∃ P, decP q m r h = P := ⟨_, rfl⟩
      obtain ⟨P, hP⟩ := hd
      rw [hP] at HD1 HD2
      clear hP hM2 HDEC hown HO HEQ
      obtain ⟨ok, L, er, hor⟩ := P
      unfold Pl.val at HD1 HD2
      dsimp only at HD1 HD2
      have HF6 := Lib.hid (HF4.out.trans HF5.out (by simp))
      have HQ6 := Lib.hid (HF5.out.keep HQ4.out (by simp))
      have HH6 := Lib.hid (HF5.out.keep HH4.out (by simp))
      obtain ⟨b0, b1, b2, b3, b4, b5, b6, _⟩ := cells7 HQ6.out
      obtain ⟨g0, g1, g2, _⟩ := cells3 HH6.out
      have M1 : Hid True := Lib.hid trivial
      have M2 : Hid True := Lib.hid trivial
      have F0 := Lib.hid (Fr.refl [] wM)
      go_wp2_with fail
      go_region_held3 (fun w' => w'.cell? ⟨w.heap.size, 0, none⟩ = some (.int .i64 q.kind) ∧ w'.cell? ⟨w.heap.size, 1, none⟩ = some (.string q.f) ∧ w'.cell? ⟨w.heap.size, 2, none⟩ = some (.string q.t) ∧ w'.cell? ⟨w.heap.size, 3, none⟩ = some (.int .i64 q.rev) ∧ w'.cell? ⟨w.heap.size, 4, none⟩ = some (.slice s1 q.cmps.length c1) ∧ w'.cell? ⟨w.heap.size, 5, none⟩ = some (.slice s2 q.thn.length c2) ∧ w'.cell? ⟨w.heap.size, 6, none⟩ = some (.slice s3 q.els.length c3) ∧ w'.cell? ⟨w.heap.size + 1, 0, none⟩ = some (.int .i64 s) ∧ w'.cell? ⟨w.heap.size + 1, 1, none⟩ = some (.int .i64 r) ∧ w'.cell? ⟨w.heap.size + 1, 2, none⟩ = some (.int .i64 h)) (first | go_keep | (exact ⟨by assumption, by assumption, by assumption, by assumption, by assumption, by assumption, by assumption, by assumption, by assumption, by assumption⟩)) (first
        | (go_at_call 12; have hm := M1.out; clear hm M1; refine (HD1.out _ (HF6.out.trans (by first | exact F0.out | exact F0.out.drew) (by simp)) (LIn.keep0 HM.out (HF6.out.trans (by first | exact F0.out | exact F0.out.drew) (by simp)))).mono ?_; rintro e w8 ⟨v8, rfl, h8, hf8⟩; obtain ⟨s8, c8, rfl, _, _⟩ := LIn.form h8; have H8 := Lib.hid h8; have F8 : Hid (Fr [] wM w8) := Lib.hid (by first | exact hf8 | exact drew_trans hf8); clear hf8 h8 b0 b1 b2 b3 b4 b5 b6 g0 g1 g2; obtain ⟨b0, b1, b2, b3, b4, b5, b6, _⟩ := cells7 (F8.out.keep HQ6.out (by simp)); obtain ⟨g0, g1, g2, _⟩ := cells3 (F8.out.keep HH6.out (by simp)))
        | (go_at_call 11; have hm := M2.out; clear hm M2; refine (ftold_any _ _ _ _ _ _ _).mono ?_; rintro e w9 ⟨rfl, hf9⟩; have H9 := Lib.hid (LIn.keep0 H8.out (by first | exact hf9 | exact drew_trans hf9)); have F9 : Hid (Fr [] wM w9) := Lib.hid (F8.out.trans (by first | exact hf9 | exact drew_trans hf9) (by simp)); clear hf9 b0 b1 b2 b3 b4 b5 b6 g0 g1 g2; obtain ⟨b0, b1, b2, b3, b4, b5, b6, _⟩ := cells7 (F9.out.keep HQ6.out (by simp)); obtain ⟨g0, g1, g2, _⟩ := cells3 (F9.out.keep HH6.out (by simp)))
        | (go_at_call 12; refine (HD2.out _ (HF6.out.trans (by first | exact F9.out | exact F9.out.drew) (by simp)) (LIn.keep0 (LAt.read HOW.out.lies Kv.clen) (by first | exact F9.out | exact F9.out.drew))).mono ?_; rintro e w10 ⟨v10, rfl, h10, hf10⟩; obtain ⟨s10, c10, rfl, _, _⟩ := LIn.form h10; have H10 := Lib.hid h10; have H9b := Lib.hid (LIn.keep0 H9.out (by first | exact hf10 | exact drew_trans hf10)); have F10 : Hid (Fr [] wM w10) := Lib.hid (F9.out.trans (by first | exact hf10 | exact drew_trans hf10) (by simp)); clear hf10 h10 b0 b1 b2 b3 b4 b5 b6 g0 g1 g2; obtain ⟨b0, b1, b2, b3, b4, b5, b6, _⟩ := cells7 (F10.out.keep HQ6.out (by simp)); obtain ⟨g0, g1, g2, _⟩ := cells3 (F10.out.keep HH6.out (by simp)))
        | (go_at_call 11; refine (ftold_any _ _ _ _ _ _ _).mono ?_; rintro e w11 ⟨rfl, hf11⟩; have H11 := Lib.hid (LIn.keep0 H10.out (by first | exact hf11 | exact drew_trans hf11)); have H9c := Lib.hid (LIn.keep0 H9b.out (by first | exact hf11 | exact drew_trans hf11)); have F11 : Hid (Fr [] wM w11) := Lib.hid (F10.out.trans (by first | exact hf11 | exact drew_trans hf11) (by simp)); clear hf11 b0 b1 b2 b3 b4 b5 b6 g0 g1 g2; obtain ⟨b0, b1, b2, b3, b4, b5, b6, _⟩ := cells7 (F11.out.keep HQ6.out (by simp)); obtain ⟨g0, g1, g2, _⟩ := cells3 (F11.out.keep HH6.out (by simp)))
        | (go_at_call 10; refine (fplans_same ok _ _ _ _ _ _ L er hor _ (LIn.keep0 H9c.out (by first | exact Fr.refl _ _ | exact (Fr.refl _ _).drew)) (LIn.keep0 H11.out (by first | exact Fr.refl _ _ | exact (Fr.refl _ _).drew))).mono ?_; rintro e w12 ⟨rfl, hf12⟩; have F12 : Hid (Fr [] wM w12) := Lib.hid (F11.out.trans (by first | exact hf12 | exact drew_trans hf12) (by simp)); clear hf12 b0 b1 b2 b3 b4 b5 b6 g0 g1 g2; obtain ⟨b0, b1, b2, b3, b4, b5, b6, _⟩ := cells7 (F12.out.keep HQ6.out (by simp)); obtain ⟨g0, g1, g2, _⟩ := cells3 (F12.out.keep HH6.out (by simp))))
      all_goals
        go_wp2_with fail
        go_ret
        exact ⟨rfl, (HF6.out.trans F12.out (by simp)).below (Nat.le_refl _) (by simp)⟩

set_option maxRecDepth 100000 in
theorem contract (H : Type) (enc : TypeId × Value → H) (W : World) (base : Nat) (args : Array Value) (ds gs : List (DataW H)) (before : List MemPlace)
    (hval0 : ∀ (j : Nat) t v, Try.f3.params[j]? = some t → args[j]? = some v → Value.okWide Try.prog W .any base t v)
    (hW : DataW.Whole enc Try.prog Try.f3.params.toList Rows.frontOwnSpec.vars false W args.toList ds gs before) :
    Calls Try.prog 3 args W fun e W' => ∃ v, e = .returned v ∧ Rows.frontOwnSpec.post enc Try.prog Try.f3 false true false false W args v W' := by
  have hval : ∀ (j : Nat) t v, Try.f3.params[j]? = some t → args[j]? = some v → Value.okWide Try.prog W .any base t v := hval0
  have hW' := hW
  obtain ⟨p, q, hA0, hV, rfl, hfz, hnd⟩ := hW
  have hA : DataW.TrodAll enc Try.prog W 0 (fun _ => true) true Try.f3.params.toList args.toList ds p := hA0
  rw [Try.params3] at hA hval
  obtain ⟨v0, vs0, d0, ds0, p0, q0, hargs, rfl, rfl, h0, r0⟩ := trodAll_cons hA
  obtain ⟨v1, vs1, d1, ds1, p1, q1, rfl, rfl, rfl, h1, r1⟩ := trodAll_cons r0
  obtain ⟨v2, vs2, d2, ds2, p2, q2, rfl, rfl, rfl, h2, r2⟩ := trodAll_cons r1
  obtain ⟨rfl, rfl, rfl⟩ := trodAll_nil r2
  obtain rfl : args = #[v0, v1, v2] := by cases args; simp_all
  obtain ⟨rfl, rfl⟩ := trodVars_none hV
  have k0 := h0
  have lt0 : ∀ x ∈ p0, x.block < W.heap.size := by obtain ⟨m, hm⟩ := k0; exact DataW.trod_lt m _ _ _ hm
  have k1 := h1
  have lt1 : ∀ x ∈ p1, x.block < W.heap.size := by obtain ⟨m, hm⟩ := k1; exact DataW.trod_lt m _ _ _ hm
  have k2 := h2
  have lt2 : ∀ x ∈ p2, x.block < W.heap.size := by obtain ⟨m, hm⟩ := k2; exact DataW.trod_lt m _ _ _ hm
  obtain ⟨q, cv, tv, ev, rfl, hq⟩ := open_req (hval 0 27 v0 rfl rfl) h0
  obtain ⟨m, hm⟩ := open_kvs (hval 1 28 v1 rfl rfl) h1
  obtain ⟨s, r, h, rfl, whd⟩ := open_fhd (hval 2 30 v2 rfl rfl) h2
  clear hA0 hval0 hval
  refine (walk q cv tv ev v1 m s r h W hq hm whd).mono fun e W' ⟨he, bel⟩ => ?_
  subst he
  exact ⟨_, rfl, _, _, _, [], _, [], hW', trodAll_mk1 (shut_bool Try.underlying4 _), (trodAll_cons_mk (Below.trod laid_prog (by kernel_rfl) (of_decide_eq_true (by kernel_rfl)) k0 bel lt0) (trodAll_cons_mk (Below.trod laid_prog (by kernel_rfl) (of_decide_eq_true (by kernel_rfl)) k1 bel lt1) (trodAll_cons_mk (Below.trod laid_prog (by kernel_rfl) (of_decide_eq_true (by kernel_rfl)) k2 bel lt2) trodAll_mk0))), rfl, bel.frame _, fun h => by cases h⟩

set_option maxRecDepth 100000 in
theorem lifted (os : Os) (started : os.Started) (H : Type) (enc : TypeId × Value → H) :
    ReturnsInHanded {} Try.checked os 3 .any (Rows.frontOwnSpec.pre6 enc Try.prog Try.f3 Rows.frontOwnRow.domain false) (Rows.frontOwnSpec.post enc Try.prog Try.f3 false true false false) := by
  refine returnsInHanded_of_change (C := Try.checked) own_prog started (by kernel_rfl) Try.func3
    (ChangeSpec.witness6 (enc := enc) (C := Try.checked) false ⟨#[], #[.agg #[.int .i64 0, .string ⟨#[]⟩, .string ⟨#[]⟩, .int .i64 0, .slice none 0 0, .slice none 0 0, .slice none 0 0], .slice none 0 0, .agg #[.int .i64 0, .int .i64 0, .int .i64 0]], []⟩ 8 (by kernel_rfl) (by kernel_rfl) (by kernel_rfl) (by kernel_rfl)) ?_
  intro W base args ds gs before hval hW _ _
  exact contract H enc W base args ds gs before hval hW

theorem proved : Rows.FrontOwnSaid :=
  OpenClaim.holds_of_wide 3 Try.f3 rfl rfl rfl rfl rfl rfl rfl ⟨rfl, rfl, rfl, rfl, rfl⟩ rfl rfl rfl rfl rfl (by kernel_rfl) Try.func3 (by kernel_rfl)
    (of_decide_eq_true (by kernel_rfl)) (by unfold Func.isWrapper; first | (rw [if_pos (by decide +kernel)]; kernel_rfl) | (rw [if_neg (by decide +kernel)]; exact ⟨rfl, rfl⟩))
    (fun os started H enc _ => lifted os started H enc)

end Go.Proofs.Ytmipllkgioakoaa.lawFrontOwn
