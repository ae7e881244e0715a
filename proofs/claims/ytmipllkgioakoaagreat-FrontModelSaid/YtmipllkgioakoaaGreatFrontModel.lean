/- Decided, stepped and answered, one entry behind the other, a log says what the model says: for every list of requests. No condition. -/
import Derived.Test.YtmipllkgioakoaaGreatFrInv
import Derived.Test.YtmipllkgioakoaaGreatMdLaw
namespace Go.Proofs.YtmipllkgioakoaaGreat.lawFrontModel
open Go.ChangeShapes Go.WideShapes Go.ChangeAt Go.RowKit Go.Deep Go.ChangeMaps
set_option linter.unusedVariables false
set_option linter.unusedSimpArgs false

set_option maxRecDepth 100000 in
set_option maxHeartbeats 8000000 in
theorem walk (lv : Value) (l : List Rv) (w : World) (hl : RvIn w lv l) :
    Calls Tryz.prog 3 #[lv] w fun e w' => e = .returned (.bool true) ∧ Below w.heap.size w w' := by
  obtain ⟨sl, cl, rfl, ll, ml⟩ := RvIn.form hl
  unfold maxLen at ml
  have HL := Lib.hid hl
  clear hl
  have hgo : (decide ((40 : Int) < (l.length : Int)) = false ∧ l.length ≤ 40) ∨ decide ((40 : Int) < (l.length : Int)) = true := by
    by_cases h : l.length ≤ 40
    · exact Or.inl ⟨by simp; omega, h⟩
    · exact Or.inr (by simp; omega)
  go_enter Tryz.func3, Tryz.ntmps3
  go_wp2_with (go_at_call 4; refine (fr_awake _).mono ?_; rintro e w1 ⟨rfl, hf⟩; refine go_stop ?_)
  unfold Stop
  have HF1 := Lib.hid hf
  clear hf
  rcases hgo with ⟨t1, h40⟩ | t1
  rotate_left
  · go_wp2_with fail
    go_ret
    exact ⟨rfl, HF1.out.below (Nat.le_refl _) (by simp)⟩
  go_wp2_with (go_at_call 5; refine (mdl_new _).mono ?_; rintro e w2 ⟨p, S0, rfl, h1, h2, h3⟩; refine go_stop ?_)
  unfold Stop
  have HM := Lib.hid h1
  have HF2 := Lib.hid (HF1.out.trans h2 (by simp))
  have HG2 : Hid (∀ k ∈ S0, w.heap.size ≤ k) := Lib.hid (fun k hk => Nat.le_trans HF1.out.size (h3 k hk))
  clear h1 h2 h3
  go_wp2_with (go_at_call 6; refine (hist_new _).mono ?_; rintro e w3 ⟨g, T0, rfl, h1, h2, h3⟩; refine go_stop ?_)
  unfold Stop
  have HI : Hid (FmI w p g w3.heap.size MA.zero 0 (w3.alloc (.cells #[.int .i64 0, .int .i64 0, .int .i64 0] 29)) S0 T0) := Lib.hid (by
    have hal : Fr [] w3 (w3.alloc (.cells #[.int .i64 0, .int .i64 0, .int .i64 0] 29)) := (Fr.refl [] w3).alloc _
    have hlt : ∀ k ∈ S0, k < w2.heap.size := fun k hk => HM.out.lt k hk
    have hlT : ∀ k ∈ T0, k < w3.heap.size := fun k hk => h1.lt k hk
    have hsz := h2.size
    exact ⟨(HM.out.keep h2 (by simp)).keep hal (by simp), h1.keep hal (by simp), MOk.zero, fun k hk hm => by have := hlt k hk; have := h3 k hm; omega, HG2.out, fun k hk => Nat.le_trans HF2.out.size (h3 k hk), new_block w3 _, fun hm => by have := hlt _ hm; omega, fun hm => by have := hlT _ hm; omega, Nat.le_trans HF2.out.size hsz, (HF2.out.trans h2 (by simp)).trans hal (by simp)⟩)
  clear h1 h2 h3 HM HG2 HF2 HF1
  go_upto_region 7 with fail
  generalize w3.alloc (.cells #[.int .i64 0, .int .i64 0, .int .i64 0] 29) = w4 at *
  generalize w3.heap.size = bh at *
  go_wp2_with fail
  go_loopw [7] (fun i wr => ∃ (j : Nat) (S T : List Nat) (M : MA), i = .int .i64 j ∧ j ≤ l.length ∧ Hid (FmI w p g bh M j wr S T)) (fun i _ => l.length - (intOf i).toNat)
  case atStart => exact ⟨0, S0, T0, MA.zero, rfl, Nat.zero_le _, HI⟩
  case round =>
    clear HI
    obtain ⟨j, S, T, M, rfl, hj, HI⟩ := hrel
    by_cases hlt : j < l.length
    · have t2 : decide (j < l.length) = true := by simpa using hlt
      have t3 : (j : Int) < (l.length : Int) := by omega
      obtain ⟨d, hd⟩ : ∃ d, l[j]? = some d := ⟨_, List.getElem?_eq_getElem hlt⟩
      obtain ⟨gl, off, d1, e1, hg, _, k1⟩ := RvIn.here HL.out (by omega)
      cases e1
      obtain ⟨hc, hq⟩ := k1 j d hd
      have hc := hc.keep HI.out.fr (by simp)
      clear hd k1
      rcases d with ⟨q, cv, tv, ev⟩
      dsimp only at hq
      obtain ⟨s1, c1, rfl, _, m1⟩ := LIn.form hq.c
      obtain ⟨s2, c2, rfl, _, m2⟩ := LIn.form hq.t
      obtain ⟨s3, c3, rfl, _, m3⟩ := LIn.form hq.e
      obtain ⟨p0, p1, p2, p3, p4, p5, p6⟩ := hc
      dsimp only at p0 p1 p2 p3 p4 p5 p6
      have HQ := Lib.hid hq
      clear hq
      have HQB := Lib.hid (new_block wr (.cells #[.int .i64 q.kind, .string q.f, .string q.t, .int .i64 q.rev, .slice s1 q.cmps.length c1, .slice s2 q.thn.length c2, .slice s3 q.els.length c3] 35))
      have HI1 := Lib.hid (HI.out.keep ((Fr.refl [] wr).alloc (.cells #[.int .i64 q.kind, .string q.f, .string q.t, .int .i64 q.rev, .slice s1 q.cmps.length c1, .slice s2 q.thn.length c2, .slice s3 q.els.length c3] 35)))
      have HBN : Hid (wr.heap.size ∉ S ∧ wr.heap.size ∉ T ∧ wr.heap.size ≠ bh) := Lib.hid ⟨fun hm => by have := HI.out.md.lt _ hm; omega, fun hm => by have := HI.out.hs.lt _ hm; omega, fun e => by have := lt_of_block HI.out.hb; omega⟩
      obtain ⟨fb, hfb⟩ : ∃ fb, fb = (decide (q.cmps.length ≤ 20) && decide (q.thn.length ≤ 20) && decide (q.els.length ≤ 20)) := ⟨_, rfl⟩
      have HFEW : Hid (∀ X, Fr [] w X → Calls Tryz.prog 7 #[.agg #[.int .i64 q.kind, .string q.f, .string q.t, .int .i64 q.rev, .slice s1 q.cmps.length c1, .slice s2 q.thn.length c2, .slice s3 q.els.length c3]] X fun e w' => e = .returned (.bool fb) ∧ Fr [] X w') := Lib.hid (fun X hX => by rw [hfb]; exact ffew_any q _ _ _ X (HQ.out.keep0 hX))
      obtain ⟨me, hme⟩ : ∃ me, mayE q = me := ⟨_, rfl⟩
      have HMAY : Hid (∀ X, Fr [] w X → Calls Tryz.prog 8 #[.agg #[.int .i64 q.kind, .string q.f, .string q.t, .int .i64 q.rev, .slice s1 q.cmps.length c1, .slice s2 q.thn.length c2, .slice s3 q.els.length c3]] X fun e w' => e = .returned (.int .i64 me) ∧ Fr [] X w') := Lib.hid (fun X hX => by rw [← hme]; exact txn_may q _ _ _ X (HQ.out.keep0 hX))
      have HMC : Hid (me = 1 ∨ (me = 0 ∧ mayQ q = true)) := Lib.hid (by
        rw [← hme]; unfold mayE
        cases mayQ q
        · exact Or.inl rfl
        · exact Or.inr ⟨rfl, rfl⟩)
      have HFB := Lib.hid hfb
      clear HI hfb hme
      go_upto_region 11 with fail
      generalize wr.alloc (.cells #[.int .i64 q.kind, .string q.f, .string q.t, .int .i64 q.rev, .slice s1 q.cmps.length c1, .slice s2 q.thn.length c2, .slice s3 q.els.length c3] 35) = wa at *
      generalize wr.heap.size = bq at *
      clear p0 p1 p2 p3 p4 p5 p6
      obtain ⟨b0, b1, b2, b3, b4, b5, b6, _⟩ := cells7 HQB.out
      go_wp2_with (go_at_call 7; refine (HFEW.out _ HI1.out.fr).mono ?_; rintro e wb ⟨rfl, hf⟩; refine go_stop ?_)
      unfold Stop
      have HI2 := Lib.hid (HI1.out.keep hf)
      have HQB2 := Lib.hid (hf.keep HQB.out (by simp))
      clear hf HI1 HQB HFEW b0 b1 b2 b3 b4 b5 b6
      obtain ⟨b0, b1, b2, b3, b4, b5, b6, _⟩ := cells7 HQB2.out
      cases fb
      · go_wp2_with fail
        go_roundw
        case rel => exact ⟨j + 1, S, T, M, by go_num, by omega, Lib.hid (HI2.out.mono (by omega))⟩
        case measure => simp [intOf]; omega
      have hfew : q.cmps.length ≤ 20 ∧ q.thn.length ≤ 20 ∧ q.els.length ≤ 20 := by
        have := HFB.out
        simp only [Bool.true_eq, Bool.and_eq_true, decide_eq_true_eq] at this
        exact ⟨this.1.1, this.1.2, this.2⟩
      obtain ⟨f1, f2, f3⟩ := hfew
      go_wp2_with (go_at_call 8; refine (HMAY.out _ HI2.out.fr).mono ?_; rintro e wc ⟨rfl, hf⟩; refine go_stop ?_)
      unfold Stop
      have HI3 := Lib.hid (HI2.out.keep hf)
      have HQB3 := Lib.hid (hf.keep HQB2.out (by simp))
      clear hf HI2 HQB2 HMAY b0 b1 b2 b3 b4 b5 b6
      obtain ⟨b0, b1, b2, b3, b4, b5, b6, _⟩ := cells7 HQB3.out
      rcases HMC.out with rfl | ⟨rfl, hmay⟩
      · go_wp2_with fail
        go_roundw
        case rel => exact ⟨j + 1, S, T, M, by go_num, by omega, Lib.hid (HI3.out.mono (by omega))⟩
        case measure => simp [intOf]; omega
      have HMQ := Lib.hid hmay
      clear hmay HMC
      have HSV := Lib.hid (mdl_serve20 (n := j) q _ _ _ HI3.out.md HI3.out.ok (by omega) (RqFar.of_old HQ.out HI3.out.geS HI3.out.fr) f1 f2 f3)
      have HOK1 := Lib.hid (HI3.out.ok.next q)
      obtain ⟨M1, hM1⟩ : ∃ M1, M1 = M.next q := ⟨_, rfl⟩
      obtain ⟨er, her⟩ : ∃ er, er = M.err q := ⟨_, rfl⟩
      obtain ⟨ok, hok⟩ : ∃ ok, ok = M.ok q := ⟨_, rfl⟩
      obtain ⟨L, hL⟩ : ∃ L, L = M.tell q := ⟨_, rfl⟩
      rw [← hM1, ← her, ← hok, ← hL] at HSV
      rw [← hM1] at HOK1
      have HM1 := Lib.hid hM1
      have HER := Lib.hid her
      have HOKB := Lib.hid hok
      have HTL := Lib.hid hL
      clear hM1 her hok hL
      go_wp2_with (go_at_call 9; refine HSV.out.mono ?_; rintro e w5 ⟨v5, S5, rfl, h1, h2, h3, h4, h5⟩; obtain ⟨s9, c9, rfl, _, _⟩ := LIn.form h2.lin; refine go_stop ?_)
      unfold Stop
      have HOKM := Lib.hid HI3.out.ok
      have HJ := Lib.hid (HI3.out.served HQB3.out HBN.out.1 HBN.out.2.1 HBN.out.2.2 h1 HOK1.out h2.lin h3 h4 h5 ((Fr.refl [] w5).alloc (.cells #[.int .i64 M1.seq, .int .i64 M1.H.rows.length, .int .i64 M1.H.hor, .int .i64 er, .bool ok, .slice s9 L.length c9] 41)) (new_block w5 (.cells #[.int .i64 M1.seq, .int .i64 M1.H.rows.length, .int .i64 M1.H.hor, .int .i64 er, .bool ok, .slice s9 L.length c9] 41)))
      clear h1 h2 h3 h4 h5 HI3 HQB3 HSV HBN b0 b1 b2 b3 b4 b5 b6
      go_upto_region 13 with fail
      generalize w5.alloc (.cells #[.int .i64 M1.seq, .int .i64 M1.H.rows.length, .int .i64 M1.H.hor, .int .i64 er, .bool ok, .slice s9 L.length c9] 41) = w6 at *
      generalize w5.heap.size = bw at *
      obtain ⟨b0, b1, b2, b3, b4, b5, b6, _⟩ := cells7 HJ.out.qb
      obtain ⟨g0, g1, g2, gf⟩ := cells3 HJ.out.hb
      by_cases hk2 : q.kind = 2
      · have t4 : (q.kind == 2) = true := by simpa using hk2
        have HBR := Lib.hid (beside_read M HMQ.out hk2)
        have hm1 : M1 = M := by rw [HM1.out]; exact HBR.out.2.1
        subst hm1
        have her2 : er = frE q.rev M1.H.rows.length M1.H.hor := by rw [HER.out]; exact HBR.out.1
        have hokf : ok = false := by rw [HOKB.out]; exact HBR.out.2.2.1
        subst hokf
        have HE2 := Lib.hid her2
        obtain ⟨V, hV⟩ : ∃ V, frV q.rev M1.H.rows.length M1.H.hor = V := ⟨_, rfl⟩
        have HAT : Hid (∀ X, Calls Tryz.prog 10 #[.agg #[.int .i64 q.kind, .string q.f, .string q.t, .int .i64 q.rev, .slice s1 q.cmps.length c1, .slice s2 q.thn.length c2, .slice s3 q.els.length c3], .agg #[.int .i64 M1.seq, .int .i64 M1.H.rows.length, .int .i64 M1.H.hor]] X fun e w' => e = .returned (.tuple #[.int .i64 V, .int .i64 er]) ∧ Fr [] X w') := Lib.hid (fun X => by rw [← hV, her2]; exact fr_at q s1 s2 s3 _ _ _ c1 c2 c3 _ _ _ X)
        have HLL : Hid ((er = 0 → L = M1.H.atL V q.f q.t) ∧ (er ≠ 0 → L = [])) := Lib.hid ⟨fun h => by rw [HTL.out, ← hV]; exact HBR.out.2.2.2.1 (by rw [← HER.out]; exact h), fun h => by rw [HTL.out]; exact HBR.out.2.2.2.2 (by rw [← HER.out]; exact h)⟩
        clear her2 hV HBR HM1 HER HOKB HTL hk2
        go_wp2_with (go_at_call 10; refine (HAT.out _).mono ?_; rintro e w7 ⟨rfl, hf⟩; refine go_stop ?_)
        unfold Stop
        have HJ7 := Lib.hid (HJ.out.keep hf)
        have HHA := Lib.hid (hist_at (n := j + 1) V q.f q.t HJ7.out.hs HJ7.out.ok.hok (by omega))
        have HAL := Lib.hid (atL_len HJ7.out.ok.hok V q.f q.t)
        obtain ⟨A, hA⟩ : ∃ A, A = M1.H.atL V q.f q.t := ⟨_, rfl⟩
        obtain ⟨ae, hae⟩ : ∃ ae, ae = M1.H.atE V := ⟨_, rfl⟩
        rw [← hA] at HLL HAL
        rw [← hA, ← hae] at HHA
        have HAL : Hid (A.length ≤ many) := Lib.hid (by have := HAL.out; unfold many; omega)
        clear hA hae hf HJ HAT b0 b1 b2 b3 b4 b5 b6 g0 g1 g2 gf
        obtain ⟨b0, b1, b2, b3, b4, b5, b6, _⟩ := cells7 HJ7.out.qb
        obtain ⟨g0, g1, g2, gf⟩ := cells3 HJ7.out.hb
        go_wp2_with (go_at_call 11; refine HHA.out.mono ?_; rintro e w8 ⟨v8, rfl, h1, h2, hf⟩; obtain ⟨s8, c8, rfl, _, _⟩ := LIn.form h1.lin; refine go_stop ?_)
        unfold Stop
        have HJ8 := Lib.hid (HJ7.out.keep hf)
        have HKV := Lib.hid h1.lin
        clear h1 h2 hf HJ7 HHA b0 b1 b2 b3 b4 b5 b6 g0 g1 g2 gf
        obtain ⟨b0, b1, b2, b3, b4, b5, b6, _⟩ := cells7 HJ8.out.qb
        obtain ⟨g0, g1, g2, gf⟩ := cells3 HJ8.out.hb
        obtain ⟨z0, z1, z2, z3, z4, z5, _⟩ := cells6 HJ8.out.wb
        by_cases he : er = 0
        · have hL := HLL.out.1 he
          subst hL
          subst he
          have HFL : Hid (frL q.rev M1.H.rows.length M1.H.hor L = L) := Lib.hid (by unfold frL; rw [if_pos HE2.out.symm])
          clear HLL
          have HRD : Hid (∀ X, Fr [] w8 X → Calls Tryz.prog 13 #[.agg #[.int .i64 q.kind, .string q.f, .string q.t, .int .i64 q.rev, .slice s1 q.cmps.length c1, .slice s2 q.thn.length c2, .slice s3 q.els.length c3], .slice s8 L.length c8, .agg #[.int .i64 M1.seq, .int .i64 M1.H.rows.length, .int .i64 M1.H.hor]] X fun e w' => ∃ s c, e = .returned (.agg #[.int .i64 M1.seq, .int .i64 M1.H.rows.length, .int .i64 M1.H.hor, .int .i64 0, .bool false, .slice s L.length c]) ∧ KvIn w' (.slice s L.length c) L ∧ Fr [] X w') := Lib.hid (fun X hX => by
            refine (fr_read q s1 s2 s3 _ _ _ c1 c2 c3 _ L _ _ _ X (LIn.keep0 HKV.out hX) HAL.out).mono ?_
            rintro e w' ⟨v, rfl, k1, _, k2⟩
            rw [HFL.out] at k1
            obtain ⟨s, c, rfl, _, _⟩ := LIn.form k1
            exact ⟨s, c, by rw [HE2.out], k1, k2⟩)
          have F8 := Lib.hid (Fr.refl [] w8)
          clear HKV HAL HFL HE2
          go_upto_region 18 with fail
          go_region_held3 (fun w' => w'.cell? ⟨bq, 0, none⟩ = some (.int .i64 q.kind) ∧ w'.cell? ⟨bq, 1, none⟩ = some (.string q.f) ∧ w'.cell? ⟨bq, 2, none⟩ = some (.string q.t) ∧ w'.cell? ⟨bq, 3, none⟩ = some (.int .i64 q.rev) ∧ w'.cell? ⟨bq, 4, none⟩ = some (.slice s1 q.cmps.length c1) ∧ w'.cell? ⟨bq, 5, none⟩ = some (.slice s2 q.thn.length c2) ∧ w'.cell? ⟨bq, 6, none⟩ = some (.slice s3 q.els.length c3) ∧ w'.cell? ⟨bh, 0, none⟩ = some (.int .i64 M1.seq) ∧ w'.cell? ⟨bh, 1, none⟩ = some (.int .i64 M1.H.rows.length) ∧ w'.cell? ⟨bh, 2, none⟩ = some (.int .i64 M1.H.hor) ∧ w'.cell? ⟨bw, 0, none⟩ = some (.int .i64 M1.seq) ∧ w'.cell? ⟨bw, 1, none⟩ = some (.int .i64 M1.H.rows.length) ∧ w'.cell? ⟨bw, 2, none⟩ = some (.int .i64 M1.H.hor) ∧ w'.cell? ⟨bw, 3, none⟩ = some (.int .i64 0) ∧ w'.cell? ⟨bw, 4, none⟩ = some (.bool false) ∧ w'.cell? ⟨bw, 5, none⟩ = some (.slice s9 L.length c9)) (first | go_keep | (exact ⟨by assumption, by assumption, by assumption, by assumption, by assumption, by assumption, by assumption, by assumption, by assumption, by assumption, by assumption, by assumption, by assumption, by assumption, by assumption, by assumption⟩)) (first
            | (go_at_call 13; refine (HRD.out _ (by first | exact F8.out | exact F8.out.drew)).mono ?_; rintro e w9 ⟨s10, c10, rfl, h1, hf⟩; have HK9 := Lib.hid h1; have F9 : Hid (Fr [] w8 w9) := Lib.hid (by first | exact hf | exact drew_trans hf); clear b0 b1 b2 b3 b4 b5 b6 g0 g1 g2 gf z0 z1 z2 z3 z4 z5 h1 hf; obtain ⟨b0, b1, b2, b3, b4, b5, b6, _⟩ := cells7 ((HJ8.out.keep F9.out).qb); obtain ⟨g0, g1, g2, gf⟩ := cells3 ((HJ8.out.keep F9.out).hb); obtain ⟨z0, z1, z2, z3, z4, z5, _⟩ := cells6 ((HJ8.out.keep F9.out).wb))
            | (go_at_call 12; refine (rsame8 _ _ _ _ _ _ _ _ _ _ _ L _ (LIn.keep0 HK9.out (by first | exact Fr.refl _ _ | exact (Fr.refl _ _).drew)) (LIn.keep0 HJ8.out.tl.lin (by first | exact F9.out | exact F9.out.drew))).mono ?_; rintro e w10 ⟨rfl, hf⟩; have F10 : Hid (Fr [] w8 w10) := Lib.hid (F9.out.trans (by first | exact hf | exact drew_trans hf) (by simp)); clear b0 b1 b2 b3 b4 b5 b6 g0 g1 g2 gf z0 z1 z2 z3 z4 z5 hf; obtain ⟨b0, b1, b2, b3, b4, b5, b6, _⟩ := cells7 ((HJ8.out.keep F10.out).qb); obtain ⟨g0, g1, g2, gf⟩ := cells3 ((HJ8.out.keep F10.out).hb); obtain ⟨z0, z1, z2, z3, z4, z5, _⟩ := cells6 ((HJ8.out.keep F10.out).wb)))
          all_goals
            go_wp2_with fail
            go_roundw
          all_goals first
            | (show _ < _; simp [intOf]; omega)
            | (exact ⟨j + 1, S5, T, M1, (by go_num), (by omega), Lib.hid ((HJ8.out.keep F10.out).done rfl rfl rfl rfl)⟩)
        · have hL := HLL.out.2 he
          subst hL
          have t5 : (er == 0) = false := by simpa using he
          have HFL : Hid (frL q.rev M1.H.rows.length M1.H.hor [] = []) := Lib.hid (by unfold frL; split <;> rfl)
          replace HKV : Hid (KvIn w8 (.slice none 0 0) []) := Lib.hid (LIn.nil _)
          replace HAL : Hid (([] : List Kv).length ≤ many) := Lib.hid (Nat.zero_le _)
          clear HLL he
          have HRD : Hid (∀ X, Fr [] w8 X → Calls Tryz.prog 13 #[.agg #[.int .i64 q.kind, .string q.f, .string q.t, .int .i64 q.rev, .slice s1 q.cmps.length c1, .slice s2 q.thn.length c2, .slice s3 q.els.length c3], .slice none 0 0, .agg #[.int .i64 M1.seq, .int .i64 M1.H.rows.length, .int .i64 M1.H.hor]] X fun e w' => ∃ s c, e = .returned (.agg #[.int .i64 M1.seq, .int .i64 M1.H.rows.length, .int .i64 M1.H.hor, .int .i64 er, .bool false, .slice s ([] : List Kv).length c]) ∧ KvIn w' (.slice s ([] : List Kv).length c) ([] : List Kv) ∧ Fr [] X w') := Lib.hid (fun X hX => by
            refine (fr_read q s1 s2 s3 _ _ _ c1 c2 c3 _ ([] : List Kv) _ _ _ X (LIn.keep0 HKV.out hX) HAL.out).mono ?_
            rintro e w' ⟨v, rfl, k1, _, k2⟩
            rw [HFL.out] at k1
            obtain ⟨s, c, rfl, _, _⟩ := LIn.form k1
            exact ⟨s, c, by rw [HE2.out], k1, k2⟩)
          have F8 := Lib.hid (Fr.refl [] w8)
          clear HKV HAL HFL HE2
          go_upto_region 18 with fail
          go_region_held3 (fun w' => w'.cell? ⟨bq, 0, none⟩ = some (.int .i64 q.kind) ∧ w'.cell? ⟨bq, 1, none⟩ = some (.string q.f) ∧ w'.cell? ⟨bq, 2, none⟩ = some (.string q.t) ∧ w'.cell? ⟨bq, 3, none⟩ = some (.int .i64 q.rev) ∧ w'.cell? ⟨bq, 4, none⟩ = some (.slice s1 q.cmps.length c1) ∧ w'.cell? ⟨bq, 5, none⟩ = some (.slice s2 q.thn.length c2) ∧ w'.cell? ⟨bq, 6, none⟩ = some (.slice s3 q.els.length c3) ∧ w'.cell? ⟨bh, 0, none⟩ = some (.int .i64 M1.seq) ∧ w'.cell? ⟨bh, 1, none⟩ = some (.int .i64 M1.H.rows.length) ∧ w'.cell? ⟨bh, 2, none⟩ = some (.int .i64 M1.H.hor) ∧ w'.cell? ⟨bw, 0, none⟩ = some (.int .i64 M1.seq) ∧ w'.cell? ⟨bw, 1, none⟩ = some (.int .i64 M1.H.rows.length) ∧ w'.cell? ⟨bw, 2, none⟩ = some (.int .i64 M1.H.hor) ∧ w'.cell? ⟨bw, 3, none⟩ = some (.int .i64 er) ∧ w'.cell? ⟨bw, 4, none⟩ = some (.bool false) ∧ w'.cell? ⟨bw, 5, none⟩ = some (.slice s9 ([] : List Kv).length c9)) (first | go_keep | (exact ⟨by assumption, by assumption, by assumption, by assumption, by assumption, by assumption, by assumption, by assumption, by assumption, by assumption, by assumption, by assumption, by assumption, by assumption, by assumption, by assumption⟩)) (first
            | (go_at_call 13; refine (HRD.out _ (by first | exact F8.out | exact F8.out.drew)).mono ?_; rintro e w9 ⟨s10, c10, rfl, h1, hf⟩; have HK9 := Lib.hid h1; have F9 : Hid (Fr [] w8 w9) := Lib.hid (by first | exact hf | exact drew_trans hf); clear b0 b1 b2 b3 b4 b5 b6 g0 g1 g2 gf z0 z1 z2 z3 z4 z5 h1 hf; obtain ⟨b0, b1, b2, b3, b4, b5, b6, _⟩ := cells7 ((HJ8.out.keep F9.out).qb); obtain ⟨g0, g1, g2, gf⟩ := cells3 ((HJ8.out.keep F9.out).hb); obtain ⟨z0, z1, z2, z3, z4, z5, _⟩ := cells6 ((HJ8.out.keep F9.out).wb))
            | (go_at_call 12; refine (rsame8 _ _ _ _ _ _ _ _ _ _ _ ([] : List Kv) _ (LIn.keep0 HK9.out (by first | exact Fr.refl _ _ | exact (Fr.refl _ _).drew)) (LIn.keep0 HJ8.out.tl.lin (by first | exact F9.out | exact F9.out.drew))).mono ?_; rintro e w10 ⟨rfl, hf⟩; have F10 : Hid (Fr [] w8 w10) := Lib.hid (F9.out.trans (by first | exact hf | exact drew_trans hf) (by simp)); clear b0 b1 b2 b3 b4 b5 b6 g0 g1 g2 gf z0 z1 z2 z3 z4 z5 hf; obtain ⟨b0, b1, b2, b3, b4, b5, b6, _⟩ := cells7 ((HJ8.out.keep F10.out).qb); obtain ⟨g0, g1, g2, gf⟩ := cells3 ((HJ8.out.keep F10.out).hb); obtain ⟨z0, z1, z2, z3, z4, z5, _⟩ := cells6 ((HJ8.out.keep F10.out).wb)))
          all_goals
            go_wp2_with fail
            go_roundw
          all_goals first
            | (show _ < _; simp [intOf]; omega)
            | (exact ⟨j + 1, S5, T, M1, (by go_num), (by omega), Lib.hid ((HJ8.out.keep F10.out).done rfl rfl rfl rfl)⟩)
      · have t4 : (q.kind == 2) = false := by simpa using hk2
        have HBS := Lib.hid (beside HOKM.out (by omega) HMQ.out hk2)
        have HML := Lib.hid (map_len HOKM.out)
        have HDEC : Hid (∀ X, Fr [] w X → ∀ u, KvIn X u M.map → Calls Tryz.prog 15 #[.agg #[.int .i64 q.kind, .string q.f, .string q.t, .int .i64 q.rev, .slice s1 q.cmps.length c1, .slice s2 q.thn.length c2, .slice s3 q.els.length c3], u, .agg #[.int .i64 M.seq, .int .i64 M.H.rows.length, .int .i64 M.H.hor]] X fun e w' => ∃ v, e = .returned ((decP q M.map M.H.rows.length M.H.hor).val v) ∧ EvIn w' v (decP q M.map M.H.rows.length M.H.hor).rows ∧ (∀ k, v.ownBlock = some k → X.heap.size ≤ k) ∧ Fr [] X w') := Lib.hid (fun X hX u hu =>
          fr_decide q _ _ _ u M.map _ _ _ X hu (srt_mapN _ _) (HQ.out.keep0 hX) (by have := HML.out; unfold many; omega) (by unfold many; omega) (by omega) (by omega))
        obtain ⟨P, hP⟩ : ∃ P, decP q M.map M.H.rows.length M.H.hor = P := ⟨_, rfl⟩
        rw [hP] at HBS HDEC
        clear hP hk2
        obtain ⟨ok2, Lr, e2, ho2⟩ := P
        unfold Pl.val at HDEC
        dsimp only at HDEC
        have hee : e2 = er := by rw [HER.out]; exact HBS.out.err
        rw [hee] at HBS HDEC
        have hL : L = [] := by rw [HTL.out]; exact HBS.out.tell
        subst hL
        have HOKE : Hid ((ok2 && decide (er = 0)) = ok) := Lib.hid (by rw [HOKB.out]; exact HBS.out.ok)
        have hlr : Lr.length ≤ 20 := HBS.out.len
        have HSTP : Hid (∀ X s11 c11, Calls Tryz.prog 16 #[.agg #[.int .i64 M.seq, .int .i64 M.H.rows.length, .int .i64 M.H.hor], .agg #[.bool ok2, .slice s11 Lr.length c11, .int .i64 er, .int .i64 ho2]] X fun e w' => e = .returned (.agg #[.int .i64 M1.seq, .int .i64 M1.H.rows.length, .int .i64 M1.H.hor]) ∧ Fr [] X w') := Lib.hid (fun X s11 c11 => by
          have k1 := HBS.out.seq
          have k2 := HBS.out.rev
          have k3 := HBS.out.hor
          rw [← HM1.out] at k1 k2 k3
          rw [← k1, ← k2, ← k3]
          exact fr_step _ _ _ ok2 s11 Lr.length c11 er ho2 (by omega) X)
        have HAN : Hid (∀ X s11 c11, Calls Tryz.prog 20 #[.agg #[.int .i64 M1.seq, .int .i64 M1.H.rows.length, .int .i64 M1.H.hor], .agg #[.bool ok2, .slice s11 Lr.length c11, .int .i64 er, .int .i64 ho2]] X fun e w' => e = .returned (.agg #[.int .i64 M1.seq, .int .i64 M1.H.rows.length, .int .i64 M1.H.hor, .int .i64 er, .bool ok, .slice none 0 0]) ∧ Fr [] X w') := Lib.hid (fun X s11 c11 => by
          rw [← HOKE.out]; exact fr_answer _ _ _ ok2 s11 Lr.length c11 er ho2 X)
        have HCOM : Hid (er = 0 → q.kind = 3 → (M.H.app (Lr.map Ev.od)).com ho2 = M1.H) := Lib.hid (fun a b => by rw [HM1.out]; exact (HBS.out.com a b).symm)
        have HAPP : Hid (¬ (er = 0 ∧ q.kind = 3) → M.H.app (Lr.map Ev.od) = M1.H) := Lib.hid (fun a => by rw [HM1.out]; exact (HBS.out.app a).symm)
        have HRV : Hid (Calls Tryz.prog 14 #[.pointer (some ⟨g, 0, none⟩)] w6 fun e w' => e = .returned (.int .i64 M.H.rows.length) ∧ Fr [] w6 w') := Lib.hid ((hist_rev HJ.out.hs).mono (fun e w' h => ⟨h.1, h.2 ▸ Fr.refl _ _⟩))
        have hao := at_ok (H := M.H) (n := M.H.rows.length) HOKM.out.hok.hor (Nat.le_refl _)
        obtain ⟨A, hA⟩ : ∃ A, mapN M.H.rows M.H.rows.length = A := ⟨_, rfl⟩
        have hA2 : M.map = A := hA
        rw [hA] at hao
        rw [hA2] at HDEC
        have HAO := Lib.hid hao
        have HOPS : Hid (∀ X u, EvIn X u Lr → Calls Tryz.prog 18 #[u] X fun e w' => ∃ v, e = .returned v ∧ OutAt Od.cells 87 3 X w' v (Lr.map Ev.od) ∧ Fr [] X w') := Lib.hid (fun X u hu => fops_any u Lr X hu (by unfold many; omega))
        have hol : (Lr.map Ev.od).length ≤ 20 := by rw [List.length_map]; exact hlr
        obtain ⟨Ol, hOl⟩ : ∃ Ol, Lr.map Ev.od = Ol := ⟨_, rfl⟩
        rw [hOl] at HOPS HCOM HAPP hol
        clear hOl
        clear hee hA hA2 hao HBS HM1 HER HOKB HTL HML
        go_wp2_with (go_at_call 14; refine HRV.out.mono ?_; rintro e w7 ⟨rfl, hf⟩; refine go_stop ?_)
        unfold Stop
        have HJ7 := Lib.hid (HJ.out.keep hf)
        have HHA := Lib.hid (hist_at (n := j) (M.H.rows.length : Int) ⟨#[]⟩ ⟨#[]⟩ HJ7.out.hs HOKM.out.hok (by omega))
        rw [HAO.out.1, HAO.out.2] at HHA
        clear hf HJ HRV HAO b0 b1 b2 b3 b4 b5 b6 g0 g1 g2 gf
        go_wp2_with (go_at_call 11; refine HHA.out.mono ?_; rintro e w8 ⟨v8, rfl, h1, h2, hf⟩; obtain ⟨s8, c8, rfl, _, _⟩ := LIn.form h1.lin; refine go_stop ?_)
        unfold Stop
        have HJ8 := Lib.hid (HJ7.out.keep hf)
        have HKV := Lib.hid h1.lin
        clear h1 h2 hf HJ7 HHA
        obtain ⟨b0, b1, b2, b3, b4, b5, b6, _⟩ := cells7 HJ8.out.qb
        obtain ⟨g0, g1, g2, gf⟩ := cells3 HJ8.out.hb
        go_wp2_with (go_at_call 15; refine (HDEC.out _ HJ8.out.fr _ HKV.out).mono ?_; rintro e w9 ⟨v9, rfl, h1, h2, hf⟩; obtain ⟨s11, c11, rfl, _, _⟩ := LIn.form h1; refine go_stop ?_)
        unfold Stop
        have hal : Fr [] w9 (w9.alloc (.cells #[.bool ok2, .slice s11 Lr.length c11, .int .i64 er, .int .i64 ho2] 52)) := (Fr.refl [] w9).alloc _
        have HPB := Lib.hid (new_block w9 (.cells #[.bool ok2, .slice s11 Lr.length c11, .int .i64 er, .int .i64 ho2] 52))
        have HJ9 := Lib.hid ((HJ8.out.keep hf).keep hal)
        have HBP : Hid (w9.heap.size ∉ T ∧ w9.heap.size ≠ bh) := Lib.hid ⟨fun hm => by have := (HJ8.out.keep hf).hs.lt _ hm; omega, fun e => by have := lt_of_block (HJ8.out.keep hf).hb; omega⟩
        have HEV : Hid (LFar [bh] Ev.cells 4 (w9.alloc (.cells #[.bool ok2, .slice s11 Lr.length c11, .int .i64 er, .int .i64 ho2] 52)) (.slice s11 Lr.length c11) Lr) := Lib.hid (LFar.keep0 ⟨h1, fun _ k hk hm => by
          have h9 := h2 k hk
          have := lt_of_block HJ8.out.hb
          simp at hm; omega⟩ hal)
        clear h1 h2 hf hal HJ8 HKV HDEC b0 b1 b2 b3 b4 b5 b6 g0 g1 g2 gf
        go_upto_region 22 with fail
        generalize w9.alloc (.cells #[.bool ok2, .slice s11 Lr.length c11, .int .i64 er, .int .i64 ho2] 52) = w10 at *
        generalize w9.heap.size = bp at *
        obtain ⟨g0, g1, g2, gf⟩ := cells3 HJ9.out.hb
        obtain ⟨p0, p1, p2, p3, _⟩ := cells4 HPB.out
        go_wp2_with (go_at_call 16; refine (HSTP.out _ _ _).mono ?_; rintro e w11 ⟨rfl, hf⟩; refine go_stop ?_)
        unfold Stop
        have HJ11 := Lib.hid (HJ9.out.keep hf)
        have HPB11 := Lib.hid (hf.keep HPB.out (by simp))
        have HEV11 := Lib.hid (HEV.out.keep0 hf)
        clear hf HJ9 HPB HEV HSTP g0 g1 g2 gf p0 p1 p2 p3
        obtain ⟨g0, g1, g2, gf⟩ := cells3 HJ11.out.hb
        have hst := hd_sets w11 bh (.int .i64 M1.seq) (.int .i64 M1.H.rows.length) (.int .i64 M1.H.hor)
        have HJ12 := Lib.hid (HJ11.out.head hst (hd_set HJ11.out.hb M1.seq M1.H.rows.length M1.H.hor))
        have HPB12 := Lib.hid (hst.keep HPB11.out (by simpa using HBP.out.2))
        have HEV12 := Lib.hid (LFar.keep HEV11.out hst).lin
        clear hst HJ11 HPB11 HEV11
        go_upto_region 23 with fail
        generalize ((w11.setCell ⟨bh, 0, none⟩ (.int .i64 M1.seq)).setCell ⟨bh, 1, none⟩ (.int .i64 M1.H.rows.length)).setCell ⟨bh, 2, none⟩ (.int .i64 M1.H.hor) = w12 at *
        clear g0 g1 g2 gf
        obtain ⟨p0, p1, p2, p3, _⟩ := cells4 HPB12.out
        go_wp2_with (go_at_call 18; refine (HOPS.out _ _ HEV12.out).mono ?_; rintro e w13 ⟨v13, rfl, ho, hf⟩; obtain ⟨s13, c13, rfl, _, _⟩ := LAt.form ho.lies; refine go_stop ?_)
        unfold Stop
        have HJ13 := Lib.hid (HJ12.out.keep hf)
        have HPB13 := Lib.hid (hf.keep HPB12.out (by simp))
        have HOF := Lib.hid (ho.far (S := T) Od.clen (fun k hk => HJ12.out.hs.lt k hk))
        clear ho hf HJ12 HPB12 HEV12 p0 p1 p2 p3
        obtain ⟨p0, p1, p2, p3, _⟩ := cells4 HPB13.out
        go_wp2_with (go_at_call 17; refine (hist_apply (n := j) _ Ol HJ13.out.hs HOKM.out.hok (by omega) HOF.out (by omega)).mono ?_; rintro e w14 ⟨v14, T1, rfl, h1, _, _, hf, hg⟩; refine go_stop ?_)
        unfold Stop
        have HJ14 := Lib.hid (HJ13.out.map h1 hf hg)
        have HPB14 := Lib.hid (hf.keep HPB13.out HBP.out.1)
        have HBP1 : Hid (bp ∉ T1) := Lib.hid (fun hm => by
          rcases hg bp hm with h7 | h7
          · exact HBP.out.1 h7
          · have := lt_of_block HPB13.out; omega)
        clear h1 hf hg HJ13 HPB13 HOF HBP p0 p1 p2 p3
        have HOKA : Hid (HOk (M.H.app Ol) (j + 1)) := Lib.hid (HOk.app HOKM.out.hok hol)
        have hcs : (er = 0 ∧ q.kind = 3) ∨ (er = 0 ∧ q.kind ≠ 3) ∨ er ≠ 0 := by
          by_cases a : er = 0
          · by_cases b : q.kind = 3
            · exact Or.inl ⟨a, b⟩
            · exact Or.inr (Or.inl ⟨a, b⟩)
          · exact Or.inr (Or.inr a)
        obtain ⟨b0, b1, b2, b3, b4, b5, b6, _⟩ := cells7 HJ14.out.qb
        obtain ⟨p0, p1, p2, p3, _⟩ := cells4 HPB14.out
        rcases hcs with ⟨he, hk3⟩ | ⟨he, hk3⟩ | he
        · have t5 : (q.kind == 3) = true := by simpa using hk3
          have HEND := Lib.hid (HCOM.out he hk3)
          clear HCOM HAPP hk3
          subst he
          go_wp2_with (go_at_call 19; refine (hist_compact (n := j + 1) ho2 HJ14.out.hs HOKA.out (by omega)).mono ?_; rintro e w15 ⟨T2, rfl, h1, hf, hg⟩; refine go_stop ?_)
          unfold Stop
          have HJ15 := Lib.hid (HJ14.out.map h1 hf hg)
          have HPB15 := Lib.hid (hf.keep HPB14.out HBP1.out)
          replace HAN : Hid (∀ X, Calls Tryz.prog 20 #[.agg #[.int .i64 M1.seq, .int .i64 M1.H.rows.length, .int .i64 M1.H.hor], .agg #[.bool ok2, .slice s11 Lr.length c11, .int .i64 0, .int .i64 ho2]] X fun e w' => e = .returned (.agg #[.int .i64 M1.seq, .int .i64 M1.H.rows.length, .int .i64 M1.H.hor, .int .i64 0, .bool ok, .slice none 0 0]) ∧ Fr [] X w') := Lib.hid (fun X => HAN.out X s11 c11)
          clear h1 hf hg HJ14 HPB14 HBP1 HOKA b0 b1 b2 b3 b4 b5 b6 p0 p1 p2 p3
          have HHD : Hid (∀ X, Fr [] w15 X → Calls Tryz.prog 21 #[.pointer (some ⟨p, 0, none⟩)] X fun e w' => e = .returned (.agg #[.int .i64 M1.seq, .int .i64 M1.H.rows.length, .int .i64 M1.H.hor]) ∧ Fr [] X w') := Lib.hid (fun X hX => mdl_head (HJ15.out.keep hX).md)
          have FZ0 := Lib.hid (Fr.refl [] w15)
          obtain ⟨g0, g1, g2, gf⟩ := cells3 HJ15.out.hb
          obtain ⟨p0, p1, p2, p3, _⟩ := cells4 HPB15.out
          obtain ⟨z0, z1, z2, z3, z4, z5, _⟩ := cells6 HJ15.out.wb
          go_upto_region 26 with fail
          go_region_held3 (fun w' => w'.cell? ⟨bh, 0, none⟩ = some (.int .i64 M1.seq) ∧ w'.cell? ⟨bh, 1, none⟩ = some (.int .i64 M1.H.rows.length) ∧ w'.cell? ⟨bh, 2, none⟩ = some (.int .i64 M1.H.hor) ∧ w'.cell? ⟨bp, 0, none⟩ = some (.bool ok2) ∧ w'.cell? ⟨bp, 1, none⟩ = some (.slice s11 Lr.length c11) ∧ w'.cell? ⟨bp, 2, none⟩ = some (.int .i64 0) ∧ w'.cell? ⟨bp, 3, none⟩ = some (.int .i64 ho2) ∧ w'.cell? ⟨bw, 0, none⟩ = some (.int .i64 M1.seq) ∧ w'.cell? ⟨bw, 1, none⟩ = some (.int .i64 M1.H.rows.length) ∧ w'.cell? ⟨bw, 2, none⟩ = some (.int .i64 M1.H.hor) ∧ w'.cell? ⟨bw, 3, none⟩ = some (.int .i64 0) ∧ w'.cell? ⟨bw, 4, none⟩ = some (.bool ok) ∧ w'.cell? ⟨bw, 5, none⟩ = some (.slice s9 ([] : List Kv).length c9)) (first | go_keep | (exact ⟨by assumption, by assumption, by assumption, by assumption, by assumption, by assumption, by assumption, by assumption, by assumption, by assumption, by assumption, by assumption, by assumption⟩)) (first
            | (go_at_call 20; refine (HAN.out _).mono ?_; rintro e wy1 ⟨rfl, hf⟩; have FZ1 : Hid (Fr [] w15 wy1) := Lib.hid (by first | exact hf | exact drew_trans hf); clear p0 p1 p2 p3 g0 g1 g2 gf z0 z1 z2 z3 z4 z5 hf; obtain ⟨g0, g1, g2, gf⟩ := cells3 (HJ15.out.keep FZ1.out).hb; obtain ⟨p0, p1, p2, p3, _⟩ := cells4 (FZ1.out.keep HPB15.out (by simp)); obtain ⟨z0, z1, z2, z3, z4, z5, _⟩ := cells6 (HJ15.out.keep FZ1.out).wb)
            | (go_at_call 12; refine (rsame8 _ _ _ _ _ _ _ _ _ _ _ [] _ (LIn.nil _) (LIn.keep0 HJ15.out.tl.lin (by first | exact FZ1.out | exact FZ1.out.drew))).mono ?_; rintro e wy2 ⟨rfl, hf⟩; have FZ2 : Hid (Fr [] w15 wy2) := Lib.hid (FZ1.out.trans (by first | exact hf | exact drew_trans hf) (by simp)); clear p0 p1 p2 p3 g0 g1 g2 gf z0 z1 z2 z3 z4 z5 hf; obtain ⟨g0, g1, g2, gf⟩ := cells3 (HJ15.out.keep FZ2.out).hb; obtain ⟨p0, p1, p2, p3, _⟩ := cells4 (FZ2.out.keep HPB15.out (by simp)); obtain ⟨z0, z1, z2, z3, z4, z5, _⟩ := cells6 (HJ15.out.keep FZ2.out).wb)
            | (go_at_call 21; refine (HHD.out _ (by first | exact FZ2.out | exact FZ2.out.drew)).mono ?_; rintro e wy3 ⟨rfl, hf⟩; have FZ3 : Hid (Fr [] w15 wy3) := Lib.hid (FZ2.out.trans (by first | exact hf | exact drew_trans hf) (by simp)); clear p0 p1 p2 p3 g0 g1 g2 gf z0 z1 z2 z3 z4 z5 hf; obtain ⟨g0, g1, g2, gf⟩ := cells3 (HJ15.out.keep FZ3.out).hb; obtain ⟨p0, p1, p2, p3, _⟩ := cells4 (FZ3.out.keep HPB15.out (by simp)); obtain ⟨z0, z1, z2, z3, z4, z5, _⟩ := cells6 (HJ15.out.keep FZ3.out).wb))
          all_goals
            go_wp2_with fail
            go_roundw
          all_goals first
            | (show _ < _; simp [intOf]; omega)
            | (exact ⟨j + 1, S5, T2, M1, (by go_num), (by omega), Lib.hid ((HJ15.out.keep FZ3.out).done HEND.out rfl rfl rfl)⟩)
        · have t5 : (q.kind == 3) = false := by simpa using hk3
          have HEND := Lib.hid (HAPP.out (fun h => hk3 h.2))
          replace HAN : Hid (∀ X, Calls Tryz.prog 20 #[.agg #[.int .i64 M1.seq, .int .i64 M1.H.rows.length, .int .i64 M1.H.hor], .agg #[.bool ok2, .slice s11 Lr.length c11, .int .i64 er, .int .i64 ho2]] X fun e w' => e = .returned (.agg #[.int .i64 M1.seq, .int .i64 M1.H.rows.length, .int .i64 M1.H.hor, .int .i64 er, .bool ok, .slice none 0 0]) ∧ Fr [] X w') := Lib.hid (fun X => HAN.out X s11 c11)
          clear HCOM HAPP hk3 HOKA HBP1
          subst he
          go_upto_region 26 with fail
          clear p0 p1 p2 p3
          have HHD : Hid (∀ X, Fr [] w14 X → Calls Tryz.prog 21 #[.pointer (some ⟨p, 0, none⟩)] X fun e w' => e = .returned (.agg #[.int .i64 M1.seq, .int .i64 M1.H.rows.length, .int .i64 M1.H.hor]) ∧ Fr [] X w') := Lib.hid (fun X hX => mdl_head (HJ14.out.keep hX).md)
          have FZ0 := Lib.hid (Fr.refl [] w14)
          obtain ⟨g0, g1, g2, gf⟩ := cells3 HJ14.out.hb
          obtain ⟨p0, p1, p2, p3, _⟩ := cells4 HPB14.out
          obtain ⟨z0, z1, z2, z3, z4, z5, _⟩ := cells6 HJ14.out.wb
          go_region_held3 (fun w' => w'.cell? ⟨bh, 0, none⟩ = some (.int .i64 M1.seq) ∧ w'.cell? ⟨bh, 1, none⟩ = some (.int .i64 M1.H.rows.length) ∧ w'.cell? ⟨bh, 2, none⟩ = some (.int .i64 M1.H.hor) ∧ w'.cell? ⟨bp, 0, none⟩ = some (.bool ok2) ∧ w'.cell? ⟨bp, 1, none⟩ = some (.slice s11 Lr.length c11) ∧ w'.cell? ⟨bp, 2, none⟩ = some (.int .i64 0) ∧ w'.cell? ⟨bp, 3, none⟩ = some (.int .i64 ho2) ∧ w'.cell? ⟨bw, 0, none⟩ = some (.int .i64 M1.seq) ∧ w'.cell? ⟨bw, 1, none⟩ = some (.int .i64 M1.H.rows.length) ∧ w'.cell? ⟨bw, 2, none⟩ = some (.int .i64 M1.H.hor) ∧ w'.cell? ⟨bw, 3, none⟩ = some (.int .i64 0) ∧ w'.cell? ⟨bw, 4, none⟩ = some (.bool ok) ∧ w'.cell? ⟨bw, 5, none⟩ = some (.slice s9 ([] : List Kv).length c9)) (first | go_keep | (exact ⟨by assumption, by assumption, by assumption, by assumption, by assumption, by assumption, by assumption, by assumption, by assumption, by assumption, by assumption, by assumption, by assumption⟩)) (first
            | (go_at_call 20; refine (HAN.out _).mono ?_; rintro e wy1 ⟨rfl, hf⟩; have FZ1 : Hid (Fr [] w14 wy1) := Lib.hid (by first | exact hf | exact drew_trans hf); clear p0 p1 p2 p3 g0 g1 g2 gf z0 z1 z2 z3 z4 z5 hf; obtain ⟨g0, g1, g2, gf⟩ := cells3 (HJ14.out.keep FZ1.out).hb; obtain ⟨p0, p1, p2, p3, _⟩ := cells4 (FZ1.out.keep HPB14.out (by simp)); obtain ⟨z0, z1, z2, z3, z4, z5, _⟩ := cells6 (HJ14.out.keep FZ1.out).wb)
            | (go_at_call 12; refine (rsame8 _ _ _ _ _ _ _ _ _ _ _ [] _ (LIn.nil _) (LIn.keep0 HJ14.out.tl.lin (by first | exact FZ1.out | exact FZ1.out.drew))).mono ?_; rintro e wy2 ⟨rfl, hf⟩; have FZ2 : Hid (Fr [] w14 wy2) := Lib.hid (FZ1.out.trans (by first | exact hf | exact drew_trans hf) (by simp)); clear p0 p1 p2 p3 g0 g1 g2 gf z0 z1 z2 z3 z4 z5 hf; obtain ⟨g0, g1, g2, gf⟩ := cells3 (HJ14.out.keep FZ2.out).hb; obtain ⟨p0, p1, p2, p3, _⟩ := cells4 (FZ2.out.keep HPB14.out (by simp)); obtain ⟨z0, z1, z2, z3, z4, z5, _⟩ := cells6 (HJ14.out.keep FZ2.out).wb)
            | (go_at_call 21; refine (HHD.out _ (by first | exact FZ2.out | exact FZ2.out.drew)).mono ?_; rintro e wy3 ⟨rfl, hf⟩; have FZ3 : Hid (Fr [] w14 wy3) := Lib.hid (FZ2.out.trans (by first | exact hf | exact drew_trans hf) (by simp)); clear p0 p1 p2 p3 g0 g1 g2 gf z0 z1 z2 z3 z4 z5 hf; obtain ⟨g0, g1, g2, gf⟩ := cells3 (HJ14.out.keep FZ3.out).hb; obtain ⟨p0, p1, p2, p3, _⟩ := cells4 (FZ3.out.keep HPB14.out (by simp)); obtain ⟨z0, z1, z2, z3, z4, z5, _⟩ := cells6 (HJ14.out.keep FZ3.out).wb))
          all_goals
            go_wp2_with fail
            go_roundw
          all_goals first
            | (show _ < _; simp [intOf]; omega)
            | (exact ⟨j + 1, S5, T1, M1, (by go_num), (by omega), Lib.hid ((HJ14.out.keep FZ3.out).done HEND.out rfl rfl rfl)⟩)
        · have t5 : (er == 0) = false := by simpa using he
          have HEND := Lib.hid (HAPP.out (fun h => he h.1))
          replace HAN : Hid (∀ X, Calls Tryz.prog 20 #[.agg #[.int .i64 M1.seq, .int .i64 M1.H.rows.length, .int .i64 M1.H.hor], .agg #[.bool ok2, .slice s11 Lr.length c11, .int .i64 er, .int .i64 ho2]] X fun e w' => e = .returned (.agg #[.int .i64 M1.seq, .int .i64 M1.H.rows.length, .int .i64 M1.H.hor, .int .i64 er, .bool ok, .slice none 0 0]) ∧ Fr [] X w') := Lib.hid (fun X => HAN.out X s11 c11)
          clear HCOM HAPP he HOKA HBP1
          go_upto_region 26 with fail
          clear p0 p1 p2 p3
          have HHD : Hid (∀ X, Fr [] w14 X → Calls Tryz.prog 21 #[.pointer (some ⟨p, 0, none⟩)] X fun e w' => e = .returned (.agg #[.int .i64 M1.seq, .int .i64 M1.H.rows.length, .int .i64 M1.H.hor]) ∧ Fr [] X w') := Lib.hid (fun X hX => mdl_head (HJ14.out.keep hX).md)
          have FZ0 := Lib.hid (Fr.refl [] w14)
          obtain ⟨g0, g1, g2, gf⟩ := cells3 HJ14.out.hb
          obtain ⟨p0, p1, p2, p3, _⟩ := cells4 HPB14.out
          obtain ⟨z0, z1, z2, z3, z4, z5, _⟩ := cells6 HJ14.out.wb
          go_region_held3 (fun w' => w'.cell? ⟨bh, 0, none⟩ = some (.int .i64 M1.seq) ∧ w'.cell? ⟨bh, 1, none⟩ = some (.int .i64 M1.H.rows.length) ∧ w'.cell? ⟨bh, 2, none⟩ = some (.int .i64 M1.H.hor) ∧ w'.cell? ⟨bp, 0, none⟩ = some (.bool ok2) ∧ w'.cell? ⟨bp, 1, none⟩ = some (.slice s11 Lr.length c11) ∧ w'.cell? ⟨bp, 2, none⟩ = some (.int .i64 er) ∧ w'.cell? ⟨bp, 3, none⟩ = some (.int .i64 ho2) ∧ w'.cell? ⟨bw, 0, none⟩ = some (.int .i64 M1.seq) ∧ w'.cell? ⟨bw, 1, none⟩ = some (.int .i64 M1.H.rows.length) ∧ w'.cell? ⟨bw, 2, none⟩ = some (.int .i64 M1.H.hor) ∧ w'.cell? ⟨bw, 3, none⟩ = some (.int .i64 er) ∧ w'.cell? ⟨bw, 4, none⟩ = some (.bool ok) ∧ w'.cell? ⟨bw, 5, none⟩ = some (.slice s9 ([] : List Kv).length c9)) (first | go_keep | (exact ⟨by assumption, by assumption, by assumption, by assumption, by assumption, by assumption, by assumption, by assumption, by assumption, by assumption, by assumption, by assumption, by assumption⟩)) (first
            | (go_at_call 20; refine (HAN.out _).mono ?_; rintro e wy1 ⟨rfl, hf⟩; have FZ1 : Hid (Fr [] w14 wy1) := Lib.hid (by first | exact hf | exact drew_trans hf); clear p0 p1 p2 p3 g0 g1 g2 gf z0 z1 z2 z3 z4 z5 hf; obtain ⟨g0, g1, g2, gf⟩ := cells3 (HJ14.out.keep FZ1.out).hb; obtain ⟨p0, p1, p2, p3, _⟩ := cells4 (FZ1.out.keep HPB14.out (by simp)); obtain ⟨z0, z1, z2, z3, z4, z5, _⟩ := cells6 (HJ14.out.keep FZ1.out).wb)
            | (go_at_call 12; refine (rsame8 _ _ _ _ _ _ _ _ _ _ _ [] _ (LIn.nil _) (LIn.keep0 HJ14.out.tl.lin (by first | exact FZ1.out | exact FZ1.out.drew))).mono ?_; rintro e wy2 ⟨rfl, hf⟩; have FZ2 : Hid (Fr [] w14 wy2) := Lib.hid (FZ1.out.trans (by first | exact hf | exact drew_trans hf) (by simp)); clear p0 p1 p2 p3 g0 g1 g2 gf z0 z1 z2 z3 z4 z5 hf; obtain ⟨g0, g1, g2, gf⟩ := cells3 (HJ14.out.keep FZ2.out).hb; obtain ⟨p0, p1, p2, p3, _⟩ := cells4 (FZ2.out.keep HPB14.out (by simp)); obtain ⟨z0, z1, z2, z3, z4, z5, _⟩ := cells6 (HJ14.out.keep FZ2.out).wb)
            | (go_at_call 21; refine (HHD.out _ (by first | exact FZ2.out | exact FZ2.out.drew)).mono ?_; rintro e wy3 ⟨rfl, hf⟩; have FZ3 : Hid (Fr [] w14 wy3) := Lib.hid (FZ2.out.trans (by first | exact hf | exact drew_trans hf) (by simp)); clear p0 p1 p2 p3 g0 g1 g2 gf z0 z1 z2 z3 z4 z5 hf; obtain ⟨g0, g1, g2, gf⟩ := cells3 (HJ14.out.keep FZ3.out).hb; obtain ⟨p0, p1, p2, p3, _⟩ := cells4 (FZ3.out.keep HPB14.out (by simp)); obtain ⟨z0, z1, z2, z3, z4, z5, _⟩ := cells6 (HJ14.out.keep FZ3.out).wb))
          all_goals
            go_wp2_with fail
            go_roundw
          all_goals first
            | (show _ < _; simp [intOf]; omega)
            | (exact ⟨j + 1, S5, T1, M1, (by go_num), (by omega), Lib.hid ((HJ14.out.keep FZ3.out).done HEND.out rfl rfl rfl)⟩)
    · have t2 : decide (j < l.length) = false := by simpa using hlt
      go_wp2_with fail
      go_ret
      exact ⟨rfl, HI.out.fr.below (Nat.le_refl _) (by simp)⟩

set_option maxRecDepth 100000 in
theorem contract (H : Type) (enc : TypeId × Value → H) (W : World) (base : Nat) (args : Array Value) (ds gs : List (DataW H)) (before : List MemPlace)
    (hval0 : ∀ (j : Nat) t v, Tryz.f3.params[j]? = some t → args[j]? = some v → Value.okWide Tryz.prog W .any base t v)
    (hW : DataW.Whole enc Tryz.prog Tryz.f3.params.toList Rows.frontModelSpec.vars false W args.toList ds gs before) :
    Calls Tryz.prog 3 args W fun e W' => ∃ v, e = .returned v ∧ Rows.frontModelSpec.post enc Tryz.prog Tryz.f3 false true false false W args v W' := by
  have hval : ∀ (j : Nat) t v, Tryz.f3.params[j]? = some t → args[j]? = some v → Value.okWide Tryz.prog W .any base t v := hval0
  have hW' := hW
  obtain ⟨p, q, hA0, hV, rfl, hfz, hnd⟩ := hW
  have hA : DataW.TrodAll enc Tryz.prog W 0 (fun _ => true) true Tryz.f3.params.toList args.toList ds p := hA0
  rw [Tryz.params3] at hA hval
  obtain ⟨v0, vs0, d0, ds0, p0, q0, hargs, rfl, rfl, h0, r0⟩ := trodAll_cons hA
  obtain ⟨rfl, rfl, rfl⟩ := trodAll_nil r0
  obtain rfl : args = #[v0] := by cases args; simp_all
  obtain ⟨rfl, rfl⟩ := trodVars_none hV
  have k0 := h0
  have lt0 : ∀ x ∈ p0, x.block < W.heap.size := by obtain ⟨m, hm⟩ := k0; exact DataW.trod_lt m _ _ _ hm
  obtain ⟨l, hl⟩ := open_reqs (hval 0 22 v0 rfl rfl) h0
  clear hA0 hval0 hval
  refine (walk v0 l W hl).mono fun e W' ⟨he, bel⟩ => ?_
  subst he
  exact ⟨_, rfl, _, _, _, [], _, [], hW', trodAll_mk1 (shut_bool Tryz.underlying4 _), (trodAll_cons_mk (Below.trod laid_prog (by kernel_rfl) (of_decide_eq_true (by kernel_rfl)) k0 bel lt0) trodAll_mk0), rfl, bel.frame _, fun h => by cases h⟩

set_option maxRecDepth 100000 in
theorem lifted (os : Os) (started : os.Started) (H : Type) (enc : TypeId × Value → H) :
    ReturnsInHanded {} Tryz.checked os 3 .any (Rows.frontModelSpec.pre6 enc Tryz.prog Tryz.f3 Rows.frontModelRow.domain false) (Rows.frontModelSpec.post enc Tryz.prog Tryz.f3 false true false false) := by
  refine returnsInHanded_of_change (C := Tryz.checked) own_prog started (by kernel_rfl) Tryz.func3
    (ChangeSpec.witness6 (enc := enc) (C := Tryz.checked) false ⟨#[], #[.slice none 0 0], []⟩ 8 (by kernel_rfl) (by kernel_rfl) (by kernel_rfl) (by kernel_rfl)) ?_
  intro W base args ds gs before hval hW _ _
  exact contract H enc W base args ds gs before hval hW

theorem proved : Rows.FrontModelSaid :=
  OpenClaim.holds_of_wide 3 Tryz.f3 rfl rfl rfl rfl rfl rfl rfl ⟨rfl, rfl, rfl, rfl, rfl⟩ rfl rfl rfl rfl rfl (by kernel_rfl) Tryz.func3 (by kernel_rfl)
    (of_decide_eq_true (by kernel_rfl)) (by unfold Func.isWrapper; first | (rw [if_pos (by decide +kernel)]; kernel_rfl) | (rw [if_neg (by decide +kernel)]; exact ⟨rfl, rfl⟩))
    (fun os started H enc _ => lifted os started H enc)

end Go.Proofs.YtmipllkgioakoaaGreat.lawFrontModel
