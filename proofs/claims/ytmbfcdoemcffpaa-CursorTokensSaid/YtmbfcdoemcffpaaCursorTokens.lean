/- A watch goes on by its token as if it hadn't ended: for every list of deeds, every watch and every number. No condition. -/
import Derived.Test.YtmbfcdoemcffpaaCuAwake
import Derived.Test.YtmbfcdoemcffpaaCuLaw
import Derived.Deep.DeepCutAuto
namespace Go.Proofs.Ytmbfcdoemcffpaa.lawCursorTokens
open Go.ChangeShapes Go.WideShapes Go.ChangeAt Go.RowKit Go.Deep Go.ChangeMaps
set_option linter.unusedVariables false
set_option linter.unusedSimpArgs false

theorem run_eql_cu (C : Cu) (w : World) : (binOp .eql 31 (.agg #[.string C.f, .string C.t, .int .i64 C.next, .bool C.once, .bool C.dead]) (.agg #[.string C.f, .string C.t, .int .i64 C.next, .bool C.once, .bool C.dead])).run Try.prog w = .ok (.bool true) w := by
  simp [go_sem]
theorem pollC_next (C : Cu) (H : HA) (most : Int) : (C.pollC H most).next = C.next ∨ (C.pollC H most).next = C.next + C.n H most := by
  unfold Cu.pollC Cu.then'
  split
  · exact Or.inl rfl
  · split
    · exact Or.inl rfl
    · split
      · exact Or.inl rfl
      · exact Or.inr rfl
set_option maxRecDepth 100000 in
set_option maxHeartbeats 16000000 in
theorem walk (lv : Value) (l : List Dd) (C : Cu) (most : Int) (w : World) (hl : DdIn w lv l) (hnx : (Lit.int .i64 C.next).wf = true) (hmost : (Lit.int .u8 most).wf = true) :
    Calls Try.prog 7 #[lv, C.val, .int .u8 most] w fun e w' => e = .returned (.bool true) ∧ Below w.heap.size w w' := by
  have hm8 : 0 ≤ most ∧ most ≤ 255 := by simpa [Lit.wf, IntKind.min, IntKind.max, IntKind.signed, IntKind.bits] using hmost
  clear hmost hnx
  have HL := Lib.hid hl
  obtain ⟨s1, c1, rfl, la, ma⟩ := hl.form
  unfold maxLen at ma
  obtain ⟨f, t, next, once, dead⟩ := C
  unfold Cu.val
  have HX := Lib.hid (new_block w (.cells #[.string f, .string t, .int .i64 next, .bool once, .bool dead] 25))
  have HF0 : Hid (Fr [] w (w.alloc (.cells #[.string f, .string t, .int .i64 next, .bool once, .bool dead] 25))) := Lib.hid ((Fr.refl [] w).alloc _)
  clear hl
  go_enter Try.func7, Try.ntmps7
  go_wp2_with (go_at_call 8; refine (cu_awake _).mono ?_; rintro e w1 ⟨rfl, h1⟩; refine go_stop ?_)
  unfold Stop
  obtain ⟨pe, hpe⟩ : ∃ pe, pe = w.heap.size := ⟨_, rfl⟩
  have hx1 := h1.keep HX.out (by simp)
  rw [← hpe] at hx1 ⊢
  have HX1 := Lib.hid hx1
  have HF := Lib.hid (HF0.out.trans h1 (by simp))
  obtain ⟨a0, a1, a2, a3, a4, _⟩ := cells5 HX1.out
  have HPE : Hid (w.heap.size ≤ pe) := Lib.hid (by omega)
  clear h1 hx1 HX HF0 hpe
  go_wp2_with (go_at_call 17; refine (cfew_any _ l _ (HL.out.keep0 HF.out)).mono ?_; rintro e wn ⟨b, rfl, hb, rfl⟩; refine go_stop ?_)
  unfold Stop
  cases b
  · clear hb
    go_wp2_with fail
    go_ret
    exact ⟨rfl, HF.out.below (Nat.le_refl _) (by simp)⟩
  obtain ⟨h30, h8⟩ := hb.1 rfl
  have H8 := Lib.hid h8
  clear hb h8
  by_cases hn1 : 1099511627776 < next
  · have t1 : decide ((1099511627776 : Int) < next) = true := by simpa using hn1
    go_wp2_with fail
    go_ret
    exact ⟨rfl, HF.out.below (Nat.le_refl _) (by simp)⟩
  by_cases hn2 : next < -1099511627776
  · have t1 : decide ((1099511627776 : Int) < next) = false := by simpa using hn1
    have t2 : decide (next < -1099511627776) = true := by simpa using hn2
    go_wp2_with fail
    go_ret
    exact ⟨rfl, HF.out.below (Nat.le_refl _) (by simp)⟩
  have t1 : decide ((1099511627776 : Int) < next) = false := by simpa using hn1
  have t2 : decide (next < -1099511627776) = false := by simpa using hn2
  cases dead with
  | true =>
    go_wp2_with fail
    go_ret
    exact ⟨rfl, HF.out.below (Nat.le_refl _) (by simp)⟩
  | false =>
  go_wp2_with (go_at_call 18; refine (hist_new _).mono ?_; rintro e w2 ⟨p, S0, rfl, h1, h2, h3⟩; refine go_stop ?_)
  unfold Stop
  have HS := Lib.hid h1
  have HG : Hid (∀ k ∈ S0, w.heap.size ≤ k) := Lib.hid (fun k hk => Nat.le_trans HF.out.size (h3 k hk))
  have HPR : Hid (∀ k ∈ S0, k ≠ pe) := Lib.hid (fun k hk => by have := h3 k hk; have := lt_of_block HX1.out; omega)
  have HF2 := Lib.hid (HF.out.trans h2 (by simp))
  have HX2 := Lib.hid (h2.keep HX1.out (by simp))
  clear h1 h2 h3 HF HX1 a0 a1 a2 a3 a4 t1 t2
  go_wp2_with fail
  go_loopw [9] (fun i wr => ∃ (j : Nat) (S : List Nat) (H : HA), i = .int .i64 j ∧ j ≤ l.length ∧ Hs wr p S H ∧ HOk H j ∧ (∀ k ∈ S, w.heap.size ≤ k) ∧ (∀ k ∈ S, k ≠ pe) ∧
    wr.heap[pe]? = some (.cells #[.string f, .string t, .int .i64 next, .bool once, .bool false] 25 (0, 0)) ∧ Fr [] w wr) (fun i _ => l.length - (intOf i).toNat)
  case atStart => exact ⟨0, S0, HA.zero, rfl, Nat.zero_le _, HS.out, HOk.zero, HG.out, HPR.out, HX2.out, HF2.out⟩
  case round =>
    clear HS HG HPR HX2 HF2
    obtain ⟨j, S, H, rfl, hj, hs, hok, hg, hne, hx, hf⟩ := hrel
    have HS := Lib.hid hs
    have OKJ := Lib.hid hok
    have HG := Lib.hid hg
    have HN := Lib.hid hne
    have HX := Lib.hid hx
    have HF := Lib.hid hf
    clear hs hok hg hne hx hf
    by_cases h : j < l.length
    · have t1 : decide ((j : Int) < (l.length : Int)) = true := by simp; omega
      obtain ⟨d, hd⟩ : ∃ d, l[j]? = some d := ⟨_, List.getElem?_eq_getElem h⟩
      obtain ⟨g, off, d1, e1, hg, l1, k1⟩ := DdIn.here HL.out (by omega)
      cases e1
      obtain ⟨p0, p1, p2, po⟩ := k1 j d hd
      have P0 := Lib.hid p0
      have P2 := Lib.hid p2
      replace p1 := HF.out.cell p1 (by simp)
      have HO := Lib.hid po
      have HO8 := Lib.hid (H8.out d (List.mem_of_getElem? hd))
      obtain ⟨su, cu, hu, _, _⟩ := po.form
      rw [hu] at p1 HO
      clear hd k1 po hu p0 p2 hg
      go_wp2_with (go_at_call 19; refine (deed_app (n := j) _ d.ops HS.out OKJ.out (by omega) HF.out HG.out HO.out HO8.out).mono ?_; rintro e w4 ⟨v4, S4, rfl, h1, h2, h3, h4, h5, h6⟩; refine go_stop ?_)
      unfold Stop
      have HS4 := Lib.hid h1
      have OK4 := Lib.hid h2
      have HF4 := Lib.hid h3
      have HG4 := Lib.hid h6
      have HX4 := Lib.hid (h4.keep HX.out (fun hm => HN.out _ hm rfl))
      have HN4 : Hid (∀ k ∈ S4, k ≠ pe) := Lib.hid (grow_ne h5 HN.out (lt_of_block HX.out))
      have p0 := HF4.out.cell P0.out (by simp)
      have p2 := HF4.out.cell P2.out (by simp)
      clear h1 h2 h3 h4 h5 h6 p1 HS HF HG HX HN OKJ
      by_cases hk2 : d.kind = 2
      · have t2 : (d.kind == 2) = true := by simpa using hk2
        clear hk2
        go_wp2_with (go_at_call 22; refine (deed_com (n := j + 1) d.rev HS4.out OK4.out (by omega) HF4.out HG4.out).mono ?_; rintro e w5 ⟨S5, rfl, h1, h2, h3, h4, h5, h6⟩; have HS5 := Lib.hid h1; have OK5 := Lib.hid h2; have HF5 := Lib.hid h3; have HG5 := Lib.hid h6; have HX5 := Lib.hid (h4.keep HX4.out (fun hm => HN4.out _ hm rfl)); have HN5 : Hid (∀ k ∈ S5, k ≠ pe) := Lib.hid (grow_ne h5 HN4.out (lt_of_block HX4.out)); clear h1 h2 h3 h4 h5 h6)
        go_roundw
        case rel => exact ⟨j + 1, S5, _, by go_num, by omega, HS5.out, OK5.out, HG5.out, HN5.out, HX5.out, HF5.out⟩
        case measure => simp [intOf]; omega
      · have t2 : (d.kind == 2) = false := by simpa using hk2
        clear hk2
        go_wp2_with fail
        go_roundw
        case rel => exact ⟨j + 1, S4, H.app d.ops, by go_num, by omega, HS4.out, OK4.out, HG4.out, HN4.out, HX4.out, HF4.out⟩
        case measure => simp [intOf]; omega
    · have t1 : decide ((j : Int) < (l.length : Int)) = false := by simp; omega
      replace OKJ := Lib.hid (OKJ.out.mono (show j ≤ 30 by omega))
      obtain ⟨Kn, hKn⟩ : ∃ Kn : Int, Kn = most % 20 := ⟨_, rfl⟩
      obtain ⟨A, hA⟩ : ∃ A, A = (Cu.mk f t next once false).pollC H Kn := ⟨_, rfl⟩
      obtain ⟨N, hN⟩ : ∃ N, N = (Cu.mk f t next once false).pollN H Kn := ⟨_, rfl⟩
      obtain ⟨D, hD⟩ : ∃ D, D = (Cu.mk A.f A.t A.next A.once false).pollC H 3 := ⟨_, rfl⟩
      obtain ⟨N2, hN2⟩ : ∃ N2, N2 = (Cu.mk A.f A.t A.next A.once false).pollN H 3 := ⟨_, rfl⟩
      obtain ⟨X, hX⟩ : ∃ X, X = A.pollC H 3 := ⟨_, rfl⟩
      obtain ⟨N3, hN3⟩ : ∃ N3, N3 = A.pollN H 3 := ⟨_, rfl⟩
      have hDX : A.dead = false → D = X := fun h => by
        rw [hD, hX, ← h]
      have hmid : Mid40 A.next := by
        have h1 := pollC_next ⟨f, t, next, once, false⟩ H Kn
        rw [← hA] at h1
        have h2 : Cu.n ⟨f, t, next, once, false⟩ H Kn ≤ 30 := by
          by_cases h : 0 < Cu.n ⟨f, t, next, once, false⟩ H Kn
          · obtain ⟨a, _, _, h3, _⟩ := n_pos h
            have := OKJ.out.rev; omega
          · omega
        unfold Mid40
        rcases h1 with h1 | h1
        · rw [h1]; show _ ≤ next ∧ next ≤ _; omega
        · rw [h1]; show _ ≤ next + _ ∧ next + _ ≤ _; omega
      have HPA : Hid (∀ W, Fr [] wr W → Calls Try.prog 25 #[.agg #[.string f, .string t, .int .i64 next, .bool once, .bool false], .pointer (some ⟨p, 0, none⟩), .int .i64 Kn] W fun e w' => ∃ s c, e = .returned (.tuple #[.agg #[.string A.f, .string A.t, .int .i64 A.next, .bool A.once, .bool A.dead], .agg #[.int .i64 N.err, .int .i64 N.hor, .int .i64 N.upto, .slice s N.rows.length c]]) ∧ RowsIn w' (.slice s N.rows.length c) N.rows ∧ Fr [] W w') := Lib.hid (fun W hW => (cur_poll [] ⟨f, t, next, once, false⟩ Kn (HS.out.keep hW (by simp)) OKJ.out (by omega) (by simp) (by unfold Mid40; show _ ≤ next ∧ next ≤ _; omega)).mono (by
        rintro e w' ⟨v, rfl, h1, h2⟩
        rw [← hN] at h1
        obtain ⟨s, c, hv, _, _⟩ := h1.form
        subst hv
        rw [← hA, ← hN]
        exact ⟨s, c, rfl, h1.rowsIn, h2⟩))
      have HPD : Hid (∀ W, Fr [] wr W → Calls Try.prog 25 #[.agg #[.string A.f, .string A.t, .int .i64 A.next, .bool A.once, .bool false], .pointer (some ⟨p, 0, none⟩), .int .i64 3] W fun e w' => ∃ s c, e = .returned (.tuple #[.agg #[.string D.f, .string D.t, .int .i64 D.next, .bool D.once, .bool D.dead], .agg #[.int .i64 N2.err, .int .i64 N2.hor, .int .i64 N2.upto, .slice s N2.rows.length c]]) ∧ Fr [] W w') := Lib.hid (fun W hW => (cur_poll [] ⟨A.f, A.t, A.next, A.once, false⟩ 3 (HS.out.keep hW (by simp)) OKJ.out (by omega) (by simp) hmid).mono (by
        rintro e w' ⟨v, rfl, h1, h2⟩
        rw [← hN2] at h1
        obtain ⟨s, c, hv, _, _⟩ := h1.form
        subst hv
        rw [← hD, ← hN2]
        exact ⟨s, c, rfl, h2⟩))
      have HPX : Hid (∀ W, Fr [] wr W → Calls Try.prog 25 #[.agg #[.string A.f, .string A.t, .int .i64 A.next, .bool A.once, .bool A.dead], .pointer (some ⟨p, 0, none⟩), .int .i64 3] W fun e w' => ∃ s c, e = .returned (.tuple #[.agg #[.string X.f, .string X.t, .int .i64 X.next, .bool X.once, .bool X.dead], .agg #[.int .i64 N3.err, .int .i64 N3.hor, .int .i64 N3.upto, .slice s N3.rows.length c]]) ∧ Fr [] W w') := Lib.hid (fun W hW => (cur_poll [] A 3 (HS.out.keep hW (by simp)) OKJ.out (by omega) (by simp) hmid).mono (by
        rintro e w' ⟨v, rfl, h1, h2⟩
        rw [← hN3] at h1
        obtain ⟨s, c, hv, _, _⟩ := h1.form
        subst hv
        rw [← hX, ← hN3]
        exact ⟨s, c, rfl, h2⟩))
      have HDX := Lib.hid hDX
      have HMA := Lib.hid fun W => cu_made ⟨f, t, next, once, false⟩ W
      have HTO := Lib.hid fun W => cur_token ⟨f, t, next, once, false⟩ W
      have HTA := Lib.hid fun W => cur_token A W
      unfold Cu.val at HMA HTO HTA
      obtain ⟨a0, a1, a2, a3, a4, _⟩ := cells5 HX.out
      rw [hKn] at HPA
      clear hA hN hD hN2 hX hN3 hDX hmid hKn hn1 hn2 h30 HG HN OKJ HS
      go_wp2_with (first
        | (go_at_call 10; refine (HMA.out _).mono ?_; rintro e w5 ⟨rfl, h5⟩; have H5 := Lib.hid h5; clear h5)
        | (go_at_call 25; refine (HPA.out _ H5.out).mono ?_; rintro e w6 ⟨s6, c6, rfl, h1, h2⟩; refine go_stop ?_))
      unfold Stop
      have H1 := Lib.hid h1
      have HF6 := Lib.hid (H5.out.trans h2 (by simp))
      have hx6 := HF6.out.keep HX.out (by simp)
      obtain ⟨b0, b1, b2, b3, b4, _⟩ := cells5 hx6
      have hl6 := lt_of_block hx6
      have n0 : ¬ pe = w6.heap.size := by omega
      have n1 : ¬ w6.heap.size = pe := by omega
      have n2 : ¬ pe = w6.heap.size + 1 := by omega
      have n3 : ¬ w6.heap.size + 1 = pe := by omega
      have n4 : pe < w6.heap.size + 1 := by omega
      clear a0 a1 a2 a3 a4 h1 h2 hx6 H5
      go_wp2_with (go_at_call 10; refine go_stop ?_)
      unfold Stop
      clear n0 n1 n2 n3 n4 b0 b1 b2 b3 b4
      obtain ⟨pa, hq⟩ : ∃ q, q = w6.heap.size := ⟨_, rfl⟩
      have hxa : ((w6.alloc (.cells #[.string A.f, .string A.t, .int .i64 A.next, .bool A.once, .bool A.dead] 31)).alloc (.cells #[.int .i64 N.err, .int .i64 N.hor, .int .i64 N.upto, .slice s6 N.rows.length c6] 34)).heap[pa]? = some (.cells #[.string A.f, .string A.t, .int .i64 A.next, .bool A.once, .bool A.dead] 31 (0, 0)) := by rw [hq]; exact blk_new2 w6 _ _
      have hya : ((w6.alloc (.cells #[.string A.f, .string A.t, .int .i64 A.next, .bool A.once, .bool A.dead] 31)).alloc (.cells #[.int .i64 N.err, .int .i64 N.hor, .int .i64 N.upto, .slice s6 N.rows.length c6] 34)).heap[pa + 1]? = some (.cells #[.int .i64 N.err, .int .i64 N.hor, .int .i64 N.upto, .slice s6 N.rows.length c6] 34 (0, 0)) := nblk_at (by rw [hq]; simp)
      have hfa : Fr [] w6 ((w6.alloc (.cells #[.string A.f, .string A.t, .int .i64 A.next, .bool A.once, .bool A.dead] 31)).alloc (.cells #[.int .i64 N.err, .int .i64 N.hor, .int .i64 N.upto, .slice s6 N.rows.length c6] 34)) := ((Fr.refl [] w6).alloc _).alloc _
      rw [← hq]
      clear hq
      generalize (w6.alloc (.cells #[.string A.f, .string A.t, .int .i64 A.next, .bool A.once, .bool A.dead] 31)).alloc (.cells #[.int .i64 N.err, .int .i64 N.hor, .int .i64 N.upto, .slice s6 N.rows.length c6] 34) = wa at hxa hya hfa ⊢
      have HFa := Lib.hid (HF6.out.trans hfa (by simp))
      have H1a := Lib.hid (H1.out.keep0 hfa)
      have HXA := Lib.hid hxa
      have HYA := Lib.hid hya
      clear hxa hya hfa H1 HF6 hl6
      have HRE := Lib.hid fun W => cur_resume f t next once W
      have HRA := Lib.hid fun W => cur_resume A.f A.t A.next A.once W
      unfold Cu.val at HRE HRA
      refine (HMA.out wa).mono ?_
      rintro e w7 ⟨rfl, h7⟩
      have G7 := Lib.hid h7
      clear h7
      go_wp2_with (first
        | (go_at_call 24; refine (HTO.out _).mono ?_; rintro e w7b ⟨rfl, h⟩; have G7b := Lib.hid (G7.out.trans h (by simp)); clear h)
        | (go_at_call 23; refine (HRE.out _).mono ?_; rintro e w7c ⟨rfl, h⟩; have G7c := Lib.hid (G7b.out.trans h (by simp)); clear h)
        | (go_at_call 25; refine (HPA.out _ (HFa.out.trans G7c.out (by simp))).mono ?_; rintro e w8 ⟨s8, c8, rfl, h1, h2⟩; refine go_stop ?_))
      unfold Stop
      have G8 := Lib.hid (G7c.out.trans h2 (by simp))
      have H2 := Lib.hid h1
      have hxa8 := G8.out.keep HXA.out (by simp)
      obtain ⟨b0, b1, b2, b3, b4, _⟩ := cells5 hxa8
      have hl8 := lt_of_block hxa8
      have n0 : ¬ pa = w8.heap.size := by omega
      have n1 : ¬ w8.heap.size = pa := by omega
      have n2 : ¬ pa = w8.heap.size + 1 := by omega
      have n3 : ¬ w8.heap.size + 1 = pa := by omega
      have n4 : pa < w8.heap.size + 1 := by omega
      clear h1 h2 hxa8 G7 G7b G7c
      go_wp2_with (go_at_call 24; refine go_stop ?_)
      unfold Stop
      clear n0 n1 n2 n3 n4 b0 b1 b2 b3 b4
      obtain ⟨pb, hq⟩ : ∃ q, q = w8.heap.size := ⟨_, rfl⟩
      have hxb : ((w8.alloc (.cells #[.string A.f, .string A.t, .int .i64 A.next, .bool A.once, .bool A.dead] 31)).alloc (.cells #[.int .i64 N.err, .int .i64 N.hor, .int .i64 N.upto, .slice s8 N.rows.length c8] 34)).heap[pb]? = some (.cells #[.string A.f, .string A.t, .int .i64 A.next, .bool A.once, .bool A.dead] 31 (0, 0)) := by rw [hq]; exact blk_new2 w8 _ _
      have hyb : ((w8.alloc (.cells #[.string A.f, .string A.t, .int .i64 A.next, .bool A.once, .bool A.dead] 31)).alloc (.cells #[.int .i64 N.err, .int .i64 N.hor, .int .i64 N.upto, .slice s8 N.rows.length c8] 34)).heap[pb + 1]? = some (.cells #[.int .i64 N.err, .int .i64 N.hor, .int .i64 N.upto, .slice s8 N.rows.length c8] 34 (0, 0)) := nblk_at (by rw [hq]; simp)
      have hfb : Fr [] w8 ((w8.alloc (.cells #[.string A.f, .string A.t, .int .i64 A.next, .bool A.once, .bool A.dead] 31)).alloc (.cells #[.int .i64 N.err, .int .i64 N.hor, .int .i64 N.upto, .slice s8 N.rows.length c8] 34)) := ((Fr.refl [] w8).alloc _).alloc _
      rw [← hq]
      clear hq
      generalize (w8.alloc (.cells #[.string A.f, .string A.t, .int .i64 A.next, .bool A.once, .bool A.dead] 31)).alloc (.cells #[.int .i64 N.err, .int .i64 N.hor, .int .i64 N.upto, .slice s8 N.rows.length c8] 34) = wb at hxb hyb hfb ⊢
      have GB := Lib.hid (G8.out.trans hfb (by simp))
      have H2b := Lib.hid (H2.out.keep0 hfb)
      have HXB := Lib.hid hxb
      have HYB := Lib.hid hyb
      clear hxb hyb hfb H2 G8 hl8
      refine (HTA.out wb).mono ?_
      rintro e w9 ⟨rfl, h9⟩
      have J9 := Lib.hid h9
      clear h9
      go_wp2_with (first
        | (go_at_call 23; refine (HRA.out _).mono ?_; rintro e w9c ⟨rfl, h⟩; have J9c := Lib.hid (J9.out.trans h (by simp)); clear h)
        | (go_at_call 25; refine (HPD.out _ ((HFa.out.trans GB.out (by simp)).trans J9c.out (by simp))).mono ?_; rintro e w10 ⟨s10, c10, rfl, h2⟩; refine go_stop ?_))
      unfold Stop
      have J10 := Lib.hid (J9c.out.trans h2 (by simp))
      have hxa10 := (GB.out.trans J10.out (by simp)).keep HXA.out (by simp)
      obtain ⟨b0, b1, b2, b3, b4, _⟩ := cells5 hxa10
      have hl10 := lt_of_block hxa10
      have n0 : ¬ pa = w10.heap.size := by omega
      have n1 : ¬ w10.heap.size = pa := by omega
      have n2 : ¬ pa = w10.heap.size + 1 := by omega
      have n3 : ¬ w10.heap.size + 1 = pa := by omega
      have n4 : pa < w10.heap.size + 1 := by omega
      clear h2 hxa10 J9 J9c
      go_wp2_with (go_at_call 25; refine go_stop ?_)
      unfold Stop
      clear n0 n1 n2 n3 n4 b0 b1 b2 b3 b4
      obtain ⟨pd, hq⟩ : ∃ q, q = w10.heap.size := ⟨_, rfl⟩
      have hxd : ((w10.alloc (.cells #[.string D.f, .string D.t, .int .i64 D.next, .bool D.once, .bool D.dead] 31)).alloc (.cells #[.int .i64 N2.err, .int .i64 N2.hor, .int .i64 N2.upto, .slice s10 N2.rows.length c10] 34)).heap[pd]? = some (.cells #[.string D.f, .string D.t, .int .i64 D.next, .bool D.once, .bool D.dead] 31 (0, 0)) := by rw [hq]; exact blk_new2 w10 _ _
      have hyd : ((w10.alloc (.cells #[.string D.f, .string D.t, .int .i64 D.next, .bool D.once, .bool D.dead] 31)).alloc (.cells #[.int .i64 N2.err, .int .i64 N2.hor, .int .i64 N2.upto, .slice s10 N2.rows.length c10] 34)).heap[pd + 1]? = some (.cells #[.int .i64 N2.err, .int .i64 N2.hor, .int .i64 N2.upto, .slice s10 N2.rows.length c10] 34 (0, 0)) := nblk_at (by rw [hq]; simp)
      have hfd : Fr [] w10 ((w10.alloc (.cells #[.string D.f, .string D.t, .int .i64 D.next, .bool D.once, .bool D.dead] 31)).alloc (.cells #[.int .i64 N2.err, .int .i64 N2.hor, .int .i64 N2.upto, .slice s10 N2.rows.length c10] 34)) := ((Fr.refl [] w10).alloc _).alloc _
      rw [← hq]
      clear hq
      generalize (w10.alloc (.cells #[.string D.f, .string D.t, .int .i64 D.next, .bool D.once, .bool D.dead] 31)).alloc (.cells #[.int .i64 N2.err, .int .i64 N2.hor, .int .i64 N2.upto, .slice s10 N2.rows.length c10] 34) = wd at hxd hyd hfd ⊢
      have JD := Lib.hid (J10.out.trans hfd (by simp))
      have HXD := Lib.hid hxd
      clear hxd hyd hfd J10 hl10
      refine (HPX.out wd ((HFa.out.trans GB.out (by simp)).trans JD.out (by simp))).mono ?_
      rintro e w12 ⟨s12, c12, rfl, h12⟩
      have K12 := Lib.hid h12
      clear h12
      go_wp2_with fail
      obtain ⟨px, hq⟩ : ∃ q, q = w12.heap.size := ⟨_, rfl⟩
      have hxx : ((w12.alloc (.cells #[.string X.f, .string X.t, .int .i64 X.next, .bool X.once, .bool X.dead] 31)).alloc (.cells #[.int .i64 N3.err, .int .i64 N3.hor, .int .i64 N3.upto, .slice s12 N3.rows.length c12] 34)).heap[px]? = some (.cells #[.string X.f, .string X.t, .int .i64 X.next, .bool X.once, .bool X.dead] 31 (0, 0)) := by rw [hq]; exact blk_new2 w12 _ _
      have hyx : ((w12.alloc (.cells #[.string X.f, .string X.t, .int .i64 X.next, .bool X.once, .bool X.dead] 31)).alloc (.cells #[.int .i64 N3.err, .int .i64 N3.hor, .int .i64 N3.upto, .slice s12 N3.rows.length c12] 34)).heap[px + 1]? = some (.cells #[.int .i64 N3.err, .int .i64 N3.hor, .int .i64 N3.upto, .slice s12 N3.rows.length c12] 34 (0, 0)) := nblk_at (by rw [hq]; simp)
      have hfx : Fr [] w12 ((w12.alloc (.cells #[.string X.f, .string X.t, .int .i64 X.next, .bool X.once, .bool X.dead] 31)).alloc (.cells #[.int .i64 N3.err, .int .i64 N3.hor, .int .i64 N3.upto, .slice s12 N3.rows.length c12] 34)) := ((Fr.refl [] w12).alloc _).alloc _
      rw [← hq]
      clear hq
      generalize (w12.alloc (.cells #[.string X.f, .string X.t, .int .i64 X.next, .bool X.once, .bool X.dead] 31)).alloc (.cells #[.int .i64 N3.err, .int .i64 N3.hor, .int .i64 N3.upto, .slice s12 N3.rows.length c12] 34) = wx at hxx hyx hfx ⊢
      have FX := Lib.hid (K12.out.trans hfx (by simp))
      have FB := Lib.hid (JD.out.trans FX.out (by simp))
      have FA := Lib.hid (GB.out.trans FB.out (by simp))
      have xA := FA.out.keep HXA.out (by simp)
      have yA := FA.out.keep HYA.out (by simp)
      have xB := FB.out.keep HXB.out (by simp)
      have yB := FB.out.keep HYB.out (by simp)
      have xD := FX.out.keep HXD.out (by simp)
      have R1 := Lib.hid (H1a.out.keep0 FA.out)
      have R2 := Lib.hid (H2b.out.keep0 FB.out)
      have HFZ := Lib.hid ((HF.out.trans HFa.out (by simp)).trans FA.out (by simp))
      obtain ⟨a0, a1, a2, a3, a4, _⟩ := cells5 xA
      obtain ⟨b0, b1, b2, b3, b4, _⟩ := cells5 xB
      obtain ⟨d0, d1, d2, d3, d4, _⟩ := cells5 xD
      obtain ⟨x0, x1, x2, x3, x4, _⟩ := cells5 hxx
      obtain ⟨e0, e1, e2, e3, _⟩ := cells4 yA
      obtain ⟨f0, f1, f2, f3, _⟩ := cells4 yB
      have Aa0 := fun n : After [] wx => n.cell a0 (by simp)
      have Aa1 := fun n : After [] wx => n.cell a1 (by simp)
      have Aa2 := fun n : After [] wx => n.cell a2 (by simp)
      have Aa3 := fun n : After [] wx => n.cell a3 (by simp)
      have Aa4 := fun n : After [] wx => n.cell a4 (by simp)
      have Ab0 := fun n : After [] wx => n.cell b0 (by simp)
      have Ab1 := fun n : After [] wx => n.cell b1 (by simp)
      have Ab2 := fun n : After [] wx => n.cell b2 (by simp)
      have Ab3 := fun n : After [] wx => n.cell b3 (by simp)
      have Ab4 := fun n : After [] wx => n.cell b4 (by simp)
      have Ad0 := fun n : After [] wx => n.cell d0 (by simp)
      have Ad1 := fun n : After [] wx => n.cell d1 (by simp)
      have Ad2 := fun n : After [] wx => n.cell d2 (by simp)
      have Ad3 := fun n : After [] wx => n.cell d3 (by simp)
      have Ad4 := fun n : After [] wx => n.cell d4 (by simp)
      have Ax0 := fun n : After [] wx => n.cell x0 (by simp)
      have Ax1 := fun n : After [] wx => n.cell x1 (by simp)
      have Ax2 := fun n : After [] wx => n.cell x2 (by simp)
      have Ax3 := fun n : After [] wx => n.cell x3 (by simp)
      have Ax4 := fun n : After [] wx => n.cell x4 (by simp)
      have Ae0 := fun n : After [] wx => n.cell e0 (by simp)
      have Ae1 := fun n : After [] wx => n.cell e1 (by simp)
      have Ae2 := fun n : After [] wx => n.cell e2 (by simp)
      have Ae3 := fun n : After [] wx => n.cell e3 (by simp)
      have Af0 := fun n : After [] wx => n.cell f0 (by simp)
      have Af1 := fun n : After [] wx => n.cell f1 (by simp)
      have Af2 := fun n : After [] wx => n.cell f2 (by simp)
      have Af3 := fun n : After [] wx => n.cell f3 (by simp)
      have qe := fun W => run_eql_cu A W
      have HTL := Lib.hid fun W s c => cu_told N s N.rows.length c W
      have HSM := Lib.hid fun W s s' c c' (h1 : RowsIn W (.slice s N.rows.length c) N.rows) (h2 : RowsIn W (.slice s' N.rows.length c') N.rows) => rcu_same N _ _ W h1 h2
      unfold ntV at HTL HSM
      clear HXA HYA HXB HYB HXD hyx hfx xA yA xB yB xD hxx K12 FX FB FA HF HFa GB JD H1a H2b HPA HPD HPX HMA HTO HTA HRE HRA
      cases hdd : A.dead with
      | true =>
        rw [hdd] at Aa4 a4 qe Ab4 b4
        refine wp_region_after [] (by kernel_rfl) (by kernel_rfl) ?_
        repeat (go_big_quiet_step (first | (go_at_call 14; exact After.quiet (HTL.out _ _ _)) | (go_at_call 13; exact After.quiet (HSM.out _ _ _ _ _ (R1.out.keep0 (After.fr _)) (R2.out.keep0 (After.fr _))))))
        refine wpQuiet_nil ?_
        rintro _ ⟨nq, rfl⟩
        go_wp2_with fail
        go_ret
        exact ⟨rfl, (HFZ.out.trans nq.fr (by simp)).below (Nat.le_refl _) (by simp)⟩
      | false =>
        have hdx := HDX.out hdd
        subst hdx
        have qd := fun W => run_eql_cu D W
        rw [hdd] at Aa4 a4 qe Ab4 b4
        refine wp_region_after [] (by kernel_rfl) (by kernel_rfl) ?_
        repeat (go_big_quiet_step (first | (go_at_call 14; exact After.quiet (HTL.out _ _ _)) | (go_at_call 13; exact After.quiet (HSM.out _ _ _ _ _ (R1.out.keep0 (After.fr _)) (R2.out.keep0 (After.fr _))))))
        refine wpQuiet_nil ?_
        rintro _ ⟨nq, rfl⟩
        go_wp2_with fail
        go_ret
        exact ⟨rfl, (HFZ.out.trans nq.fr (by simp)).below (Nat.le_refl _) (by simp)⟩

set_option maxRecDepth 100000 in
theorem contract (H : Type) (enc : TypeId × Value → H) (W : World) (base : Nat) (args : Array Value) (ds gs : List (DataW H)) (before : List MemPlace)
    (hval0 : ∀ (j : Nat) t v, Try.f7.params[j]? = some t → args[j]? = some v → Value.okWide Try.prog W .any base t v)
    (hW : DataW.Whole enc Try.prog Try.f7.params.toList Rows.cursorTokensSpec.vars false W args.toList ds gs before) :
    Calls Try.prog 7 args W fun e W' => ∃ v, e = .returned v ∧ Rows.cursorTokensSpec.post enc Try.prog Try.f7 false true false false W args v W' := by
  have hval : ∀ (j : Nat) t v, Try.f7.params[j]? = some t → args[j]? = some v → Value.okWide Try.prog W .any base t v := hval0
  have hW' := hW
  obtain ⟨p, q, hA0, hV, rfl, hfz, hnd⟩ := hW
  have hA : DataW.TrodAll enc Try.prog W 0 (fun _ => true) true Try.f7.params.toList args.toList ds p := hA0
  rw [Try.params7] at hA hval
  obtain ⟨v0, vs0, d0, ds0, p0, q0, hargs, rfl, rfl, h0, r0⟩ := trodAll_cons hA
  obtain ⟨v1, vs1, d1, ds1, p1, q1, rfl, rfl, rfl, h1, r1⟩ := trodAll_cons r0
  obtain ⟨v2, vs2, d2, ds2, p2, q2, rfl, rfl, rfl, h2, r2⟩ := trodAll_cons r1
  obtain ⟨rfl, rfl, rfl⟩ := trodAll_nil r2
  obtain rfl : args = #[v0, v1, v2] := by cases args; simp_all
  obtain ⟨rfl, rfl⟩ := trodVars_none hV
  have k0 := h0
  have lt0 : ∀ x ∈ p0, x.block < W.heap.size := by obtain ⟨m, hm⟩ := k0; exact DataW.trod_lt m _ _ _ hm
  have k1 := h1
  have lt1 : ∀ x ∈ p1, x.block < W.heap.size := by obtain ⟨m, hm⟩ := k1; exact DataW.trod_lt m _ _ _ hm
  have k2 := h2
  have lt2 : ∀ x ∈ p2, x.block < W.heap.size := by obtain ⟨m, hm⟩ := k2; exact DataW.trod_lt m _ _ _ hm
  obtain ⟨l, hl⟩ := open_cdeeds (hval 0 48 v0 rfl rfl) h0
  obtain ⟨c, rfl, fc, tc, nc⟩ := open_cu (hval 1 25 v1 rfl rfl) h1
  obtain ⟨most, rfl, _, _, wmost⟩ := open_int Try.underlying5 (hval 2 5 v2 rfl rfl) h2
  clear hA0 hval0 hval
  refine (walk v0 l c most W hl nc wmost).mono fun e W' ⟨he, bel⟩ => ?_
  subst he
  exact ⟨_, rfl, _, _, _, [], _, [], hW', trodAll_mk1 (shut_bool Try.underlying4 _), (trodAll_cons_mk (Below.trod laid_prog (by kernel_rfl) (of_decide_eq_true (by kernel_rfl)) k0 bel lt0) (trodAll_cons_mk (Below.trod laid_prog (by kernel_rfl) (of_decide_eq_true (by kernel_rfl)) k1 bel lt1) (trodAll_cons_mk (Below.trod laid_prog (by kernel_rfl) (of_decide_eq_true (by kernel_rfl)) k2 bel lt2) trodAll_mk0))), rfl, bel.frame _, fun h => by cases h⟩

set_option maxRecDepth 100000 in
theorem lifted (os : Os) (started : os.Started) (H : Type) (enc : TypeId × Value → H) :
    ReturnsInHanded {} Try.checked os 7 .any (Rows.cursorTokensSpec.pre6 enc Try.prog Try.f7 Rows.cursorTokensRow.domain false) (Rows.cursorTokensSpec.post enc Try.prog Try.f7 false true false false) := by
  refine returnsInHanded_of_change (C := Try.checked) own_prog started (by kernel_rfl) Try.func7
    (ChangeSpec.witness6 (enc := enc) (C := Try.checked) false ⟨#[], #[.slice none 0 0, .agg #[.string ⟨#[]⟩, .string ⟨#[]⟩, .int .i64 0, .bool false, .bool false], .int .u8 0], []⟩ 8 (by kernel_rfl) (by kernel_rfl) (by kernel_rfl) (by kernel_rfl)) ?_
  intro W base args ds gs before hval hW _ _
  exact contract H enc W base args ds gs before hval hW

theorem proved : Rows.CursorTokensSaid :=
  OpenClaim.holds_of_wide 7 Try.f7 rfl rfl rfl rfl rfl rfl rfl ⟨rfl, rfl, rfl, rfl, rfl⟩ rfl rfl rfl rfl rfl (by kernel_rfl) Try.func7 (by kernel_rfl)
    (of_decide_eq_true (by kernel_rfl)) (by unfold Func.isWrapper; first | (rw [if_pos (by decide +kernel)]; kernel_rfl) | (rw [if_neg (by decide +kernel)]; exact ⟨rfl, rfl⟩))
    (fun os started H enc _ => lifted os started H enc)

end Go.Proofs.Ytmbfcdoemcffpaa.lawCursorTokens
