/- With Once a watch is told each key once a time, by keys; what it is told makes the same of what there was as all of it: for every list of deeds, every range and every number. No condition. -/
import Derived.Test.YtmbfcdoemcffpaaCuAwake
import Derived.Test.YtmbfcdoemcffpaaCuLaw
import Derived.Deep.DeepCutAuto
namespace Go.Proofs.Ytmbfcdoemcffpaa.lawCursorOnce
open Go.ChangeShapes Go.WideShapes Go.ChangeAt Go.RowKit Go.Deep Go.ChangeMaps
set_option linter.unusedVariables false
set_option linter.unusedSimpArgs false

set_option maxRecDepth 100000 in
set_option maxHeartbeats 8000000 in
theorem walk (lv : Value) (l : List Dd) (f t : ByteArray) (most : Int) (w : World) (hl : DdIn w lv l) (hmost : (Lit.int .u8 most).wf = true) :
    Calls Try.prog 6 #[lv, .agg #[.string f, .string t], .int .u8 most] w fun e w' => e = .returned (.bool true) ∧ Below w.heap.size w w' := by
  have hm8 : 0 ≤ most ∧ most ≤ 255 := by simpa [Lit.wf, IntKind.min, IntKind.max, IntKind.signed, IntKind.bits] using hmost
  clear hmost
  have HL := Lib.hid hl
  obtain ⟨s1, c1, rfl, la, ma⟩ := hl.form
  unfold maxLen at ma
  clear hl
  have HX := Lib.hid (new_block w (.cells #[.string f, .string t] 23))
  have HF0 : Hid (Fr [] w (w.alloc (.cells #[.string f, .string t] 23))) := Lib.hid ((Fr.refl [] w).alloc _)
  go_enter Try.func6, Try.ntmps6
  go_wp2_with (first
    | (go_at_call 8; refine (cu_awake _).mono ?_; rintro e w1 ⟨rfl, h1⟩; have HF := Lib.hid (HF0.out.trans h1 (by simp)); have HX1 := Lib.hid (h1.keep HX.out (by simp)); clear h1)
    | (go_at_call 17; refine (cfew_any _ l _ (HL.out.keep0 HF.out)).mono ?_; rintro e wn ⟨b, rfl, hb, rfl⟩; refine go_stop ?_))
  unfold Stop
  cases b
  · clear hb
    go_wp2_with fail
    go_ret
    exact ⟨rfl, HF.out.below (Nat.le_refl _) (by simp)⟩
  obtain ⟨h30, h8⟩ := hb.1 rfl
  have H8 := Lib.hid h8
  clear hb h8
  go_wp2_with (go_at_call 18; refine (hist_new _).mono ?_; rintro e w2 ⟨p, S0, rfl, h1, h2, h3⟩; refine go_stop ?_)
  unfold Stop
  have HS := Lib.hid h1
  have HG : Hid (∀ k ∈ S0, w.heap.size ≤ k) := Lib.hid (fun k hk => Nat.le_trans HF.out.size (h3 k hk))
  have HF2 := Lib.hid (HF.out.trans h2 (by simp))
  have HX2 := Lib.hid (h2.keep HX1.out (by simp))
  clear h1 h2 h3 HF HX1 HF0 HX
  have HOP : Hid (Calls Try.prog 20 #[.pointer (some ⟨p, 0, none⟩), .agg #[.string f, .string t], .int .i64 0] w2 fun e w' => ∃ s c, e = .returned (.tuple #[.agg #[.string f, .string t, .int .i64 1, .bool false, .bool false], .slice s 0 c, .int .i64 0]) ∧ c ≤ maxLen ∧ Fr [] w2 w') := Lib.hid ((cur_open f t HS.out HOk.zero (by decide)).mono (by
    rintro e w' ⟨v, rfl, h1, h2⟩
    have h1 : LFar S0 Kv.cells 3 w' v [] := h1
    obtain ⟨s, c, hv, _, hc⟩ := h1.form
    subst hv
    exact ⟨s, c, rfl, hc, h2⟩))
  obtain ⟨x0, x1, _⟩ := cells2 HX2.out
  go_wp2_with (go_at_call 20; refine HOP.out.mono ?_; rintro e w3 ⟨sm, cm, rfl, hcm, h2⟩; refine go_stop ?_)
  unfold Stop
  have HCM := Lib.hid hcm
  replace HS := Lib.hid (HS.out.keep h2 (by simp))
  have HF3 := Lib.hid (HF2.out.trans h2 (by simp))
  clear hcm h2 HOP HF2 HX2 x0 x1
  go_wp2_with fail
  obtain ⟨pa, hpa⟩ : ∃ pa, pa = w3.heap.size := ⟨_, rfl⟩
  obtain ⟨wl, hwl⟩ : ∃ x, x = ((w3.alloc (.cells #[.string f, .string t, .int .i64 1, .bool false, .bool false] 31)).alloc (.cells #[.string f, .string t, .int .i64 1, .bool true, .bool false] 31)) := ⟨_, rfl⟩
  have hA : wl.heap[pa]? = some (.cells #[.string f, .string t, .int .i64 1, .bool false, .bool false] 31 (0, 0)) := by rw [hwl, hpa]; exact blk_new2 w3 _ _
  have hB : wl.heap[pa + 1]? = some (.cells #[.string f, .string t, .int .i64 1, .bool true, .bool false] 31 (0, 0)) := by rw [hwl, hpa]; exact nblk_at (by simp)
  have hfl : Fr [] w3 wl := by rw [hwl]; exact ((Fr.refl [] w3).alloc _).alloc _
  rw [← hpa, ← hwl]
  have hlt := HS.out.lt
  have HSL := Lib.hid (HS.out.keep hfl (by simp))
  have HFL := Lib.hid (HF3.out.trans hfl (by simp))
  have HN0 : Hid (∀ k ∈ S0, k ≠ pa ∧ k ≠ pa + 1) := Lib.hid (fun k hk => by have := hlt k hk; omega)
  have HPA := Lib.hid hA
  have HPB := Lib.hid hB
  clear hA hB hfl hlt hwl hpa HS HF3
  go_loopw [13] (fun i wr => ∃ (j : Nat) (S : List Nat) (H : HA), i = .int .i64 j ∧ j ≤ l.length ∧ Hs wr p S H ∧ HOk H j ∧ H.hor = 0 ∧ (∀ k ∈ S, w.heap.size ≤ k) ∧ (∀ k ∈ S, k ≠ pa ∧ k ≠ pa + 1) ∧
    wr.heap[pa]? = some (.cells #[.string f, .string t, .int .i64 1, .bool false, .bool false] 31 (0, 0)) ∧ wr.heap[pa + 1]? = some (.cells #[.string f, .string t, .int .i64 1, .bool true, .bool false] 31 (0, 0)) ∧ Fr [] w wr) (fun i _ => l.length - (intOf i).toNat)
  case atStart => exact ⟨0, S0, HA.zero, rfl, Nat.zero_le _, HSL.out, HOk.zero, rfl, HG.out, HN0.out, HPA.out, HPB.out, HFL.out⟩
  case round =>
    clear HSL HG HN0 HPA HPB HFL
    obtain ⟨j, S, H, rfl, hj, hs, hok, hh0, hg, hne, ha, hb, hf⟩ := hrel
    have HS := Lib.hid hs
    have OKJ := Lib.hid hok
    have HH0 := Lib.hid hh0
    have HG := Lib.hid hg
    have HN := Lib.hid hne
    have HPA := Lib.hid ha
    have HPB := Lib.hid hb
    have HF := Lib.hid hf
    clear hs hok hh0 hg hne ha hb hf
    by_cases h : j < l.length
    · have t1 : decide ((j : Int) < (l.length : Int)) = true := by simp; omega
      obtain ⟨d, hd⟩ : ∃ d, l[j]? = some d := ⟨_, List.getElem?_eq_getElem h⟩
      obtain ⟨g, off, d1, e1, hg, l1, k1⟩ := DdIn.here HL.out (by omega)
      cases e1
      obtain ⟨p0, p1, p2, po⟩ := k1 j d hd
      replace p1 := HF.out.cell p1 (by simp)
      have HO := Lib.hid po
      have HO8 := Lib.hid (H8.out d (List.mem_of_getElem? hd))
      obtain ⟨su, cu, hu, _, _⟩ := po.form
      rw [hu] at p1 HO
      clear hd k1 po hu p0 p2 hg
      go_wp2_with (go_at_call 19; refine (deed_app (n := j) _ d.ops HS.out OKJ.out (by omega) HF.out HG.out HO.out HO8.out).mono ?_; rintro e w4 ⟨v4, S4, rfl, h1, h2, h3, h4, h5, h6⟩; have HS4 := Lib.hid h1; have OK4 := Lib.hid h2; have HF4 := Lib.hid h3; have HG4 := Lib.hid h6; have HA4 := Lib.hid (h4.keep HPA.out (fun hm => (HN.out _ hm).1 rfl)); have HB4 := Lib.hid (h4.keep HPB.out (fun hm => (HN.out _ hm).2 rfl)); have HN4 : Hid (∀ k ∈ S4, k ≠ pa ∧ k ≠ pa + 1) := Lib.hid (fun k hk => ⟨grow_ne h5 (fun k hk => (HN.out k hk).1) (lt_of_block HPA.out) k hk, grow_ne h5 (fun k hk => (HN.out k hk).2) (lt_of_block HPB.out) k hk⟩); clear h1 h2 h3 h4 h5 h6)
      go_roundw
      case rel => exact ⟨j + 1, S4, H.app d.ops, by go_num, by omega, HS4.out, OK4.out, HH0.out, HG4.out, HN4.out, HA4.out, HB4.out, HF4.out⟩
      case measure => simp [intOf]; omega
    · have t1 : decide ((j : Int) < (l.length : Int)) = false := by simp; omega
      have hj30 : j ≤ 30 := by omega
      replace OKJ := Lib.hid (OKJ.out.mono hj30)
      clear h30 hj hj30
      obtain ⟨a0, a1, a2, a3, a4, _⟩ := cells5 HPA.out
      have hlv : Live ⟨f, t, 1, false, false⟩ H 0 := ⟨rfl, rfl, by rw [HH0.out]; exact Nat.le_refl _, Nat.zero_le _⟩
      have hlv1 : Live ⟨f, t, 1, true, false⟩ H 0 := ⟨rfl, rfl, by rw [HH0.out]; exact Nat.le_refl _, Nat.zero_le _⟩
      obtain ⟨G, hG⟩ : ∃ G, G = Cu.got ⟨f, t, 1, false, false⟩ H (most % 33) := ⟨_, rfl⟩
      have hfew : RFew G := by rw [hG]; exact part_few OKJ.out (by omega) _ _
      have hgl : G.length ≤ 1000 := by
        rw [hG, got_len]
        have := hlv.n_le (most % 33)
        have := OKJ.out.rev
        omega
      obtain ⟨U, hU⟩ : ∃ U : Int, U = (0 : Nat) + (Cu.n ⟨f, t, 1, false, false⟩ H (most % 33) : Nat) := ⟨_, rfl⟩
      obtain ⟨R, hR⟩ : ∃ R, R = Cu.full ⟨f, t, 1, false, false⟩ G := ⟨_, rfl⟩
      obtain ⟨A, hA⟩ : ∃ A, A = filterE f t G.flatten := ⟨_, rfl⟩
      have hRA : R.flatten = A := by rw [hR, hA]; exact full_flat _ _
      obtain ⟨R1, hR1⟩ : ∃ R1, R1 = (if A = [] then [] else [lastE A]) := ⟨_, rfl⟩
      have hAl : A.length ≤ 1000000000 := by rw [hA]; exact Nat.le_trans (List.length_filter_le _ _) hfew.2
      have hRl : R.length ≤ 1000 := by rw [hR]; exact Nat.le_trans (full_few _ _) hgl
      have HP0 : Hid (∀ D, D = (Cu.mk f t 1 false false).pollC H (most % 33) → Calls Try.prog 25 #[.agg #[.string f, .string t, .int .i64 1, .bool false, .bool false], .pointer (some ⟨p, 0, none⟩), .int .i64 (most % 33)] wr fun e w' => ∃ s c, e = .returned (.tuple #[.agg #[.string D.f, .string D.t, .int .i64 D.next, .bool D.once, .bool D.dead], .agg #[.int .i64 0, .int .i64 0, .int .i64 U, .slice s R.length c]]) ∧ RowsIn w' (.slice s R.length c) R ∧ Fr [] wr w') := Lib.hid (fun D hD => (cur_poll [] ⟨f, t, 1, false, false⟩ (most % 33) HS.out OKJ.out (by omega) (by simp) (show Mid40 1 from ⟨by decide, by decide⟩)).mono (by
        rintro e w' ⟨v, rfl, h1, h2⟩
        rw [hlv.pollN, full_tell rfl, ← hG, ← hR, ← hU] at h1
        obtain ⟨s, c, hv, _, _⟩ := h1.form
        subst hv
        rw [← hD, hlv.pollN, full_tell rfl, ← hG, ← hR, ← hU]
        exact ⟨s, c, rfl, h1.rowsIn, h2⟩))
      have HP1 : Hid (∀ W, Fr [] wr W → ∀ D, D = (Cu.mk f t 1 true false).pollC H (most % 33) → Calls Try.prog 25 #[.agg #[.string f, .string t, .int .i64 1, .bool true, .bool false], .pointer (some ⟨p, 0, none⟩), .int .i64 (most % 33)] W fun e w' => ∃ s c, e = .returned (.tuple #[.agg #[.string D.f, .string D.t, .int .i64 D.next, .bool D.once, .bool D.dead], .agg #[.int .i64 0, .int .i64 0, .int .i64 U, .slice s R1.length c]]) ∧ RowsIn w' (.slice s R1.length c) R1 ∧ Fr [] W w') := Lib.hid (fun W hW D hD => (cur_poll [] ⟨f, t, 1, true, false⟩ (most % 33) (HS.out.keep hW (by simp)) OKJ.out (by omega) (by simp) (show Mid40 1 from ⟨by decide, by decide⟩)).mono (by
        have hG1 : Cu.got ⟨f, t, 1, true, false⟩ H (most % 33) = G := by rw [hG]; rfl
        have hU1 : ((0 : Nat) : Int) + (Cu.n ⟨f, t, 1, true, false⟩ H (most % 33) : Nat) = U := by rw [hU]; rfl
        rintro e w' ⟨v, rfl, h1, h2⟩
        rw [hlv1.pollN, once_tell rfl, hG1, hU1] at h1
        rw [← hA, ← hR1] at h1
        obtain ⟨s, c, hv, _, _⟩ := h1.form
        subst hv
        rw [← hD, hlv1.pollN, once_tell rfl, hG1, hU1]
        rw [← hA, ← hR1]
        exact ⟨s, c, rfl, h1.rowsIn, h2⟩))
      obtain ⟨D0, hD0⟩ : ∃ D, D = (Cu.mk f t 1 false false).pollC H (most % 33) := ⟨_, rfl⟩
      obtain ⟨D1, hD1⟩ : ∃ D, D = (Cu.mk f t 1 true false).pollC H (most % 33) := ⟨_, rfl⟩
      have HQ0 := Lib.hid (HP0.out D0 hD0)
      have HQ1 := Lib.hid (fun W hW => HP1.out W hW D1 hD1)
      have HRA := Lib.hid hRA
      have HR1 := Lib.hid hR1
      clear hlv hlv1 hG hfew hgl hU hR hA hRA hR1 HP0 HP1 hD0 hD1
      go_wp2_with (go_at_call 25; refine HQ0.out.mono ?_; rintro e w5 ⟨s5, c5, rfl, h1, h2⟩; refine go_stop ?_)
      unfold Stop
      have H1 := Lib.hid h1
      have HF5 := Lib.hid (HF.out.trans h2 (by simp))
      have H2 := Lib.hid h2
      have HPB5 := Lib.hid (h2.keep HPB.out (by simp))
      have hb := lt_of_block HPB5.out
      obtain ⟨b0, b1, b2, b3, b4, _⟩ := cells5 HPB5.out
      have n1 : ¬ pa + 1 = w5.heap.size := by omega
      have n2 : ¬ w5.heap.size = pa + 1 := by omega
      have n3 : ¬ pa + 1 = w5.heap.size + 1 := by omega
      have n4 : ¬ w5.heap.size + 1 = pa + 1 := by omega
      have n5 : pa + 1 < w5.heap.size + 1 := by omega
      have n6 : ¬ pa = w5.heap.size := by omega
      clear h1 h2 a0 a1 a2 a3 a4
      go_wp2_with (go_at_call 25; refine go_stop ?_)
      unfold Stop
      obtain ⟨px, hpx⟩ : ∃ px, px = w5.heap.size + 1 := ⟨_, rfl⟩
      have hx6 : (((w5.alloc (.cells #[.string D0.f, .string D0.t, .int .i64 D0.next, .bool D0.once, .bool D0.dead] 31)).alloc (.cells #[.int .i64 0, .int .i64 0, .int .i64 U, .slice s5 R.length c5] 34))).heap[px]? = some (.cells #[.int .i64 0, .int .i64 0, .int .i64 U, .slice s5 R.length c5] 34 (0, 0)) := nblk_at (by rw [hpx]; simp)
      have hf6 : Fr [] w5 ((w5.alloc (.cells #[.string D0.f, .string D0.t, .int .i64 D0.next, .bool D0.once, .bool D0.dead] 31)).alloc (.cells #[.int .i64 0, .int .i64 0, .int .i64 U, .slice s5 R.length c5] 34)) := ((Fr.refl [] w5).alloc _).alloc _
      rw [← hpx]
      clear n1 n2 n3 n4 n5 n6 hb b0 b1 b2 b3 b4 hpx
      generalize (w5.alloc (.cells #[.string D0.f, .string D0.t, .int .i64 D0.next, .bool D0.once, .bool D0.dead] 31)).alloc (.cells #[.int .i64 0, .int .i64 0, .int .i64 U, .slice s5 R.length c5] 34) = w6 at hx6 hf6 ⊢
      refine (HQ1.out w6 (H2.out.trans hf6 (by simp))).mono ?_
      rintro e w7 ⟨s7, c7, rfl, h1, h2⟩
      have HNX := Lib.hid (h2.keep hx6 (by simp))
      have HRX := Lib.hid ((H1.out.keep0 hf6).keep0 h2)
      have HRY := Lib.hid h1
      have HF7 := Lib.hid ((HF5.out.trans hf6 (by simp)).trans h2 (by simp))
      clear h1 h2 hx6 hf6 H1 H2 HF5 HPB5 HPA HPB HN HQ0 HQ1 HS HG OKJ HH0 HF
      go_wp2_with fail
      have KNIL : Hid (∀ W, KvIn W (.slice sm 0 cm) []) := Lib.hid (fun W => ⟨sm, cm, rfl, Nat.zero_le _, HCM.out, fun h => absurd h (by simp)⟩)
      obtain ⟨py, hpy⟩ : ∃ py, py = w7.heap.size + 1 := ⟨_, rfl⟩
      obtain ⟨wB, hwB⟩ : ∃ x, x = ((w7.alloc (.cells #[.string D1.f, .string D1.t, .int .i64 D1.next, .bool D1.once, .bool D1.dead] 31)).alloc (.cells #[.int .i64 0, .int .i64 0, .int .i64 U, .slice s7 R1.length c7] 34)) := ⟨_, rfl⟩
      have hyB : wB.heap[py]? = some (.cells #[.int .i64 0, .int .i64 0, .int .i64 U, .slice s7 R1.length c7] 34 (0, 0)) := by rw [hwB]; exact nblk_at (by rw [hpy]; simp)
      have hfB : Fr [] w7 wB := by rw [hwB]; exact ((Fr.refl [] w7).alloc _).alloc _
      rw [← hpy, ← hwB]
      have HYB := Lib.hid hyB
      have HXB := Lib.hid (hfB.keep HNX.out (by simp))
      have HRXB := Lib.hid (HRX.out.keep0 hfB)
      have HRYB := Lib.hid (HRY.out.keep0 hfB)
      have HFB := Lib.hid (HF7.out.trans hfB (by simp))
      clear hyB hfB hpy hwB HNX HRX HRY HF7
      go_loopw [19, 20] (fun av i wr2 => ∃ (j2 : Nat), i = .int .i64 j2 ∧ j2 ≤ R.length ∧ OutAt Ev.cells 67 4 wB wr2 av (R.take j2).flatten ∧ Fr [] wB wr2) (fun _ i _ => R.length - (intOf i).toNat)
      case atStart => exact ⟨0, rfl, Nat.zero_le _, OutAt.nil _ _, Fr.refl _ _⟩
      case round =>
        obtain ⟨j2, rfl, hj2, ho, hf⟩ := hrel
        have HO := Lib.hid ho
        have HF := Lib.hid hf
        obtain ⟨x0, x1, x2, x3, _⟩ := cells4 (hf.keep HXB.out (by simp))
        clear ho hf
        by_cases h2 : j2 < R.length
        · obtain ⟨x, hx⟩ : ∃ x, R[j2]? = some x := ⟨_, List.getElem?_eq_getElem h2⟩
          obtain ⟨g, off, d1, e1, l1, k1⟩ := RowsIn.here (HRXB.out.keep0 HF.out) (by omega)
          simp only [Value.slice.injEq] at e1
          obtain ⟨rfl, _, rfl⟩ := e1
          obtain ⟨u, hu, hur⟩ := k1 j2 x hx
          obtain ⟨su, cu, hus, _, _⟩ := LIn.form hur
          subst hus
          have HX := Lib.hid hx
          have HUR := Lib.hid hur
          have t2 : decide ((j2 : Int) < (R.length : Int)) = true := by simp; omega
          have hsum : ((R.take j2).flatten).length + x.length ≤ 1000000000 := by
            have h3 := take_flat R (j2 + 1)
            rw [flat_step hx, List.length_append, HRA.out] at h3
            omega
          obtain ⟨B, hB⟩ : ∃ B, B = (R.take j2).flatten := ⟨_, rfl⟩
          rw [← hB] at HO hsum
          have HBE := Lib.hid hB
          clear hx k1 hur hB
          go_wp2_with (at_builtin; refine wpList_append_src rfl (.tmp 74) (.tmp 79) 30 67 (.agg #[.int .i64 0, .string ⟨#[]⟩, .string ⟨#[]⟩, .bool false]) 4 48 rfl ev_slice ev_info rfl (by decide) _ B.length (allC Ev.cells B) rfl HO.out.lies (.slice su x.length cu) x.length (allC Ev.cells x) rfl (LIn.src HUR.out Ev.clen (by decide)) (allC_ones Ev.cone x) (by unfold maxLen; omega) (by omega) ?app)
          case app =>
          intro va w8 h1 h2 h3
          have HA8 := Lib.hid (OutAt.app HO.out HF.out.size (xs := x) h1 rfl h3)
          have HF8 := Lib.hid (OutAt.fr HO.out HF.out h2)
          clear h1 h2 h3
          go_wp2_with fail
          go_roundw
          case rel => exact ⟨j2 + 1, by go_num, by omega, by rw [flat_step HX.out, ← HBE.out]; exact HA8.out, HF8.out⟩
          case measure => simp [intOf]; omega
        · have t2 : decide ((j2 : Int) < (R.length : Int)) = false := by simp; omega
          have hje : j2 = R.length := by omega
          subst hje
          have hAA : (R.take R.length).flatten = A := by rw [List.take_length]; exact HRA.out
          rw [hAA] at HO
          obtain ⟨sA, cA, hvA, _, _⟩ := LAt.form HO.out.lies
          subst hvA
          have HAL : Hid (EvAt wr (.slice sA A.length cA) A) := Lib.hid HO.out.lies
          have HAM : Hid (A.length ≤ many) := Lib.hid hAl
          have HFE := Lib.hid (HFB.out.trans HF.out (by simp))
          have HRY2 := Lib.hid (HRYB.out.keep0 HF.out)
          obtain ⟨y0, y1, y2, y3, _⟩ := cells4 (HF.out.keep HYB.out (by simp))
          have HLM : Hid ((lastE A).length ≤ many) := Lib.hid (by have := lastE_len A; have := HAM.out; omega)
          have HSE : Hid (sameB evB (lastE A) (lastE A) = true) := Lib.hid ((sameB_eq evB_eq).2 rfl)
          have HSK : Hid (sameB kvB (foldK [] A) (foldK [] (lastE A)) = true) := Lib.hid ((sameB_eq kvB_eq).2 (fold_last Srt.nil A).symm)
          clear hAA HO
          by_cases hA0 : A = []
          · have HOO : Hid (EvIn wr (.slice none 0 0) (lastE A)) := Lib.hid (by rw [(lastE_nil_iff A).2 hA0]; exact LIn.nil _)
            have hr1 : R1.length = 0 := by rw [HR1.out, if_pos hA0]; rfl
            rw [hr1] at y3
            clear hA0 hr1
            go_wp2_with (first
              | (go_at_call 33; refine (rlast_any _ A _ (EvAt.read HAL.out) HAM.out).mono ?_; rintro e w9 ⟨v9, rfl, h1, h2⟩; obtain ⟨s9, c9, hv9, _, _⟩ := LAt.form h1; subst hv9; have HLA := Lib.hid (EvAt.read h1); have HA9 := Lib.hid (LIn.keep0 (EvAt.read HAL.out) h2); have HO9 := Lib.hid (LIn.keep0 HOO.out h2); have HF9 := Lib.hid (HFE.out.trans h2 (by simp)); clear h1 h2)
              | (go_at_call 32; refine (revents_any _ _ (lastE A) (lastE A) _ HO9.out HLA.out).mono ?_; rintro e wE ⟨rfl, h2⟩; rw [HSE.out]; have HAE := Lib.hid (LIn.keep0 HA9.out h2); have HOE := Lib.hid (LIn.keep0 HO9.out h2); have HFE2 := Lib.hid (HF9.out.trans h2 (by simp)); clear h2; refine go_stop ?_))
            unfold Stop
            go_wp2_with (go_at_call 27; refine (rfold_any _ _ [] A _ (KNIL.out _) HAE.out (by unfold many; simp) HAM.out).mono ?_; rintro e wG ⟨vG, rfl, h1, h2⟩; refine go_stop ?_)
            unfold Stop
            obtain ⟨sG, cG, hvG, _, _⟩ := LIn.form h1
            subst hvG
            have HG1 := Lib.hid h1
            have HOG := Lib.hid (LIn.keep0 HOE.out h2)
            have HFG := Lib.hid (HFE2.out.trans h2 (by simp))
            clear h1 h2
            go_wp2_with (first
              | (go_at_call 27; refine (rfold_any _ _ [] (lastE A) _ (KNIL.out _) HOG.out (by unfold many; simp) HLM.out).mono ?_; rintro e wH ⟨vH, rfl, h1, h2⟩; obtain ⟨sH, cH, hvH, _, _⟩ := LIn.form h1; subst hvH; have HH1 := Lib.hid h1; have HG2 := Lib.hid (LIn.keep0 HG1.out h2); have HFH := Lib.hid (HFG.out.trans h2 (by simp)); clear h1 h2)
              | (go_at_call 29; refine (rkvs_any _ _ _ _ _ HG2.out HH1.out).mono ?_; rintro e wK ⟨rfl, h2⟩; rw [HSK.out]; have HFK := Lib.hid (HFH.out.trans h2 (by simp)); clear h2))
            go_ret
            exact ⟨rfl, HFK.out.below (Nat.le_refl _) (by simp)⟩
          · have hr1 : R1 = [lastE A] := by rw [HR1.out, if_neg hA0]
            obtain ⟨g, off, d1, e1, l1, k1⟩ := RowsIn.here HRY2.out (by rw [hr1]; simp)
            obtain ⟨u, hu, hur⟩ := k1 0 (lastE A) (by rw [hr1]; rfl)
            simp only [Value.slice.injEq] at e1
            obtain ⟨rfl, _, rfl⟩ := e1
            obtain ⟨su, cu, hus, _, _⟩ := LIn.form hur
            subst hus
            have HOO := Lib.hid hur
            have hr2 : R1.length = 1 := by rw [hr1]; rfl
            rw [hr2] at y3
            simp only [Nat.add_zero] at hu
            clear hA0 hr1 hr2 k1 hur
            go_wp2_with (first
              | (go_at_call 33; refine (rlast_any _ A _ (EvAt.read HAL.out) HAM.out).mono ?_; rintro e w9 ⟨v9, rfl, h1, h2⟩; obtain ⟨s9, c9, hv9, _, _⟩ := LAt.form h1; subst hv9; have HLA := Lib.hid (EvAt.read h1); have HA9 := Lib.hid (LIn.keep0 (EvAt.read HAL.out) h2); have HO9 := Lib.hid (LIn.keep0 HOO.out h2); have HF9 := Lib.hid (HFE.out.trans h2 (by simp)); clear h1 h2)
              | (go_at_call 32; refine (revents_any _ _ (lastE A) (lastE A) _ HO9.out HLA.out).mono ?_; rintro e wE ⟨rfl, h2⟩; rw [HSE.out]; have HAE := Lib.hid (LIn.keep0 HA9.out h2); have HOE := Lib.hid (LIn.keep0 HO9.out h2); have HFE2 := Lib.hid (HF9.out.trans h2 (by simp)); clear h2; refine go_stop ?_))
            unfold Stop
            go_wp2_with (go_at_call 27; refine (rfold_any _ _ [] A _ (KNIL.out _) HAE.out (by unfold many; simp) HAM.out).mono ?_; rintro e wG ⟨vG, rfl, h1, h2⟩; refine go_stop ?_)
            unfold Stop
            obtain ⟨sG, cG, hvG, _, _⟩ := LIn.form h1
            subst hvG
            have HG1 := Lib.hid h1
            have HOG := Lib.hid (LIn.keep0 HOE.out h2)
            have HFG := Lib.hid (HFE2.out.trans h2 (by simp))
            clear h1 h2
            go_wp2_with (first
              | (go_at_call 27; refine (rfold_any _ _ [] (lastE A) _ (KNIL.out _) HOG.out (by unfold many; simp) HLM.out).mono ?_; rintro e wH ⟨vH, rfl, h1, h2⟩; obtain ⟨sH, cH, hvH, _, _⟩ := LIn.form h1; subst hvH; have HH1 := Lib.hid h1; have HG2 := Lib.hid (LIn.keep0 HG1.out h2); have HFH := Lib.hid (HFG.out.trans h2 (by simp)); clear h1 h2)
              | (go_at_call 29; refine (rkvs_any _ _ _ _ _ HG2.out HH1.out).mono ?_; rintro e wK ⟨rfl, h2⟩; rw [HSK.out]; have HFK := Lib.hid (HFH.out.trans h2 (by simp)); clear h2))
            go_ret
            exact ⟨rfl, HFK.out.below (Nat.le_refl _) (by simp)⟩

set_option maxRecDepth 100000 in
theorem contract (H : Type) (enc : TypeId × Value → H) (W : World) (base : Nat) (args : Array Value) (ds gs : List (DataW H)) (before : List MemPlace)
    (hval0 : ∀ (j : Nat) t v, Try.f6.params[j]? = some t → args[j]? = some v → Value.okWide Try.prog W .any base t v)
    (hW : DataW.Whole enc Try.prog Try.f6.params.toList Rows.cursorOnceSpec.vars false W args.toList ds gs before) :
    Calls Try.prog 6 args W fun e W' => ∃ v, e = .returned v ∧ Rows.cursorOnceSpec.post enc Try.prog Try.f6 false true false false W args v W' := by
  have hval : ∀ (j : Nat) t v, Try.f6.params[j]? = some t → args[j]? = some v → Value.okWide Try.prog W .any base t v := hval0
  have hW' := hW
  obtain ⟨p, q, hA0, hV, rfl, hfz, hnd⟩ := hW
  have hA : DataW.TrodAll enc Try.prog W 0 (fun _ => true) true Try.f6.params.toList args.toList ds p := hA0
  rw [Try.params6] at hA hval
  obtain ⟨v0, vs0, d0, ds0, p0, q0, hargs, rfl, rfl, h0, r0⟩ := trodAll_cons hA
  obtain ⟨v1, vs1, d1, ds1, p1, q1, rfl, rfl, rfl, h1, r1⟩ := trodAll_cons r0
  obtain ⟨v2, vs2, d2, ds2, p2, q2, rfl, rfl, rfl, h2, r2⟩ := trodAll_cons r1
  obtain ⟨rfl, rfl, rfl⟩ := trodAll_nil r2
  obtain rfl : args = #[v0, v1, v2] := by cases args; simp_all
  obtain ⟨rfl, rfl⟩ := trodVars_none hV
  have k0 := h0
  have lt0 : ∀ x ∈ p0, x.block < W.heap.size := by obtain ⟨m, hm⟩ := k0; exact DataW.trod_lt m _ _ _ hm
  have k1 := h1
  have lt1 : ∀ x ∈ p1, x.block < W.heap.size := by obtain ⟨m, hm⟩ := k1; exact DataW.trod_lt m _ _ _ hm
  have k2 := h2
  have lt2 : ∀ x ∈ p2, x.block < W.heap.size := by obtain ⟨m, hm⟩ := k2; exact DataW.trod_lt m _ _ _ hm
  obtain ⟨l, hl⟩ := open_cdeeds (hval 0 48 v0 rfl rfl) h0
  obtain ⟨rf, rt, rfl, _, _⟩ := open_range (hval 1 23 v1 rfl rfl) h1
  obtain ⟨most, rfl, _, _, wmost⟩ := open_int Try.underlying5 (hval 2 5 v2 rfl rfl) h2
  clear hA0 hval0 hval
  refine (walk v0 l rf rt most W hl wmost).mono fun e W' ⟨he, bel⟩ => ?_
  subst he
  exact ⟨_, rfl, _, _, _, [], _, [], hW', trodAll_mk1 (shut_bool Try.underlying4 _), (trodAll_cons_mk (Below.trod laid_prog (by kernel_rfl) (of_decide_eq_true (by kernel_rfl)) k0 bel lt0) (trodAll_cons_mk (Below.trod laid_prog (by kernel_rfl) (of_decide_eq_true (by kernel_rfl)) k1 bel lt1) (trodAll_cons_mk (Below.trod laid_prog (by kernel_rfl) (of_decide_eq_true (by kernel_rfl)) k2 bel lt2) trodAll_mk0))), rfl, bel.frame _, fun h => by cases h⟩

set_option maxRecDepth 100000 in
theorem lifted (os : Os) (started : os.Started) (H : Type) (enc : TypeId × Value → H) :
    ReturnsInHanded {} Try.checked os 6 .any (Rows.cursorOnceSpec.pre6 enc Try.prog Try.f6 Rows.cursorOnceRow.domain false) (Rows.cursorOnceSpec.post enc Try.prog Try.f6 false true false false) := by
  refine returnsInHanded_of_change (C := Try.checked) own_prog started (by kernel_rfl) Try.func6
    (ChangeSpec.witness6 (enc := enc) (C := Try.checked) false ⟨#[], #[.slice none 0 0, .agg #[.string ⟨#[]⟩, .string ⟨#[]⟩], .int .u8 0], []⟩ 8 (by kernel_rfl) (by kernel_rfl) (by kernel_rfl) (by kernel_rfl)) ?_
  intro W base args ds gs before hval hW _ _
  exact contract H enc W base args ds gs before hval hW

theorem proved : Rows.CursorOnceSaid :=
  OpenClaim.holds_of_wide 6 Try.f6 rfl rfl rfl rfl rfl rfl rfl ⟨rfl, rfl, rfl, rfl, rfl⟩ rfl rfl rfl rfl rfl (by kernel_rfl) Try.func6 (by kernel_rfl)
    (of_decide_eq_true (by kernel_rfl)) (by unfold Func.isWrapper; first | (rw [if_pos (by decide +kernel)]; kernel_rfl) | (rw [if_neg (by decide +kernel)]; exact ⟨rfl, rfl⟩))
    (fun os started H enc _ => lifted os started H enc)

end Go.Proofs.Ytmbfcdoemcffpaa.lawCursorOnce
