/- Of swaps of one key from one value to others just the first one holds: for every list of requests and every three numbers. No condition. -/
import Derived.Test.YtlklmmpblgcaoaaMdAwake
import Derived.Test.YtlklmmpblgcaoaaMdLaw
import Derived.Test.YtlklmmpblgcaoaaMdSwap
namespace Go.Proofs.Ytlklmmpblgcaoaa.lawModelSwaps
open Go.ChangeShapes Go.WideShapes Go.ChangeAt Go.RowKit Go.Deep Go.ChangeMaps
set_option linter.unusedVariables false
set_option linter.unusedSimpArgs false

def b1s (c : UInt8) (n : UInt8) : ByteArray := ⟨#[c, n]⟩
theorem byte_of (x : Int) : ∃ u : UInt8, (u.toNat : Int) = x % 26 + 97 := by
  obtain ⟨k, hk⟩ : ∃ k : Nat, x % 26 + 97 = k := ⟨(x % 26 + 97).toNat, by omega⟩
  have hk2 : k < 256 := by omega
  refine ⟨UInt8.ofNat k, ?_⟩
  rw [hk, UInt8.toNat_ofNat', Nat.mod_eq_of_lt hk2]
theorem two_size (c n : UInt8) : ((⟨#[c]⟩ : ByteArray) ++ ⟨#[n]⟩).size = 2 := by rw [ByteArray.size_append]; rfl
theorem two_ne (c d n m : UInt8) (h : c ≠ d) : ((⟨#[c]⟩ : ByteArray) ++ ⟨#[n]⟩) ≠ ((⟨#[d]⟩ : ByteArray) ++ ⟨#[m]⟩) := fun e => by
  have h1 := congrArg (fun s : ByteArray => s.data.toList.head?) e
  simp at h1
  exact h h1
set_option maxRecDepth 100000 in
theorem conv_one (W : World) (B : Nat) (hB : W.heap.size = B) {u : UInt8} {n : Int} (h : (u.toNat : Int) = n) : (convert 52 9 (.slice (some ⟨B, 0, none⟩) 1 1)).run Try.prog (W.alloc (.cells #[.int .u8 n] 5)) = .ok (.string ⟨#[u]⟩) (W.alloc (.cells #[.int .u8 n] 5)) := by
  subst hB
  refine run_convert_bytes_back _ 52 9 5 ⟨W.heap.size, 0, none⟩ 1 [u] rfl rfl rfl ?_
  intro j hj
  have : j = 0 := by simpa using hj
  subst this
  simp only [List.getElem_cons_zero, h]
  exact (cells1 (w := W.alloc _) (new_block W _)).1
set_option maxRecDepth 100000 in
set_option maxHeartbeats 8000000 in
theorem walk (lv : Value) (l : List Rv) (x y z : Int) (w : World) (hl : RvIn w lv l) (wx : (Lit.int .u8 x).wf = true) (wy : (Lit.int .u8 y).wf = true) (wz : (Lit.int .u8 z).wf = true) : Calls Try.prog 6 #[lv, .agg #[.int .u8 x, .int .u8 y, .int .u8 z]] w fun e w' => e = .returned (.bool true) ∧ Below w.heap.size w w' := by
  obtain ⟨s1, c1, rfl, la, ma⟩ := hl.form
  unfold maxLen at ma
  have hx8 : 0 ≤ x ∧ x < 256 := by simp [Lit.wf, IntKind.has, IntKind.min, IntKind.max, IntKind.signed, IntKind.bits] at wx; omega
  have hy8 : 0 ≤ y ∧ y < 256 := by simp [Lit.wf, IntKind.has, IntKind.min, IntKind.max, IntKind.signed, IntKind.bits] at wy; omega
  have hz8 : 0 ≤ z ∧ z < 256 := by simp [Lit.wf, IntKind.has, IntKind.min, IntKind.max, IntKind.signed, IntKind.bits] at wz; omega
  have HL := Lib.hid hl
  clear hl wx wy wz
  obtain ⟨wb, hwb⟩ : ∃ wb, wb = w.alloc (.cells #[.int .u8 x, .int .u8 y, .int .u8 z] 51) := ⟨_, rfl⟩
  have HWB := Lib.hid hwb
  have HF0 : Hid (Fr [] w wb) := Lib.hid (by rw [hwb]; exact (Fr.refl [] w).alloc _)
  clear hwb
  have HFEW : Hid (∀ X, Fr [] w X → Calls Try.prog 10 #[.slice s1 l.length c1] X fun e w' => e = .returned (.bool (fewB l)) ∧ Fr [] X w') := Lib.hid (fun X hX => mfew_any _ l X (HL.out.keep0 hX))
  go_enter Try.func6, Try.ntmps6
  go_upto_region 1 with fail
  rw [← HWB.out]
  have HB0 : Hid (wb.heap[w.heap.size]? = some (.cells #[.int .u8 x, .int .u8 y, .int .u8 z] 51 (0, 0))) := Lib.hid (by rw [HWB.out]; exact new_block w _)
  go_wp2_with (first
    | (go_at_call 8; refine (mdl_awake _).mono ?_; rintro e w1 ⟨rfl, h1⟩; have HF := Lib.hid (HF0.out.trans h1 (by simp)); have HB := Lib.hid (h1.keep HB0.out (by simp)); clear h1)
    | (go_at_call 10; refine (HFEW.out _ HF.out).mono ?_; rintro e w3 ⟨rfl, h1⟩; replace HF := Lib.hid (HF.out.trans h1 (by simp)); replace HB := Lib.hid (h1.keep HB.out (by simp)); clear h1; refine go_stop ?_))
  unfold Stop
  cases hb : fewB l
  · clear hb
    go_wp2_with fail
    go_ret
    exact ⟨rfl, HF.out.below (Nat.le_refl _) (by simp)⟩
  have HFB := Lib.hid hb
  clear hb
  go_wp2_with (go_at_call 14; refine (mran_any _ l _ _ HL.out HF.out HFB.out).mono ?_; rintro e w4 ⟨p, S, rfl, h1, h2, h3⟩; refine go_stop ?_)
  unfold Stop
  have HS := Lib.hid h1
  have HG : Hid (∀ k ∈ S, w.heap.size < k) := Lib.hid (fun k hk => by have := h3 k hk; have := lt_of_block HB.out; omega)
  replace HF := Lib.hid (HF.out.trans h2 (by simp))
  replace HB := Lib.hid (h2.keep HB.out (by simp))
  have HOK := Lib.hid (runV_ok l l.length)
  obtain ⟨M, hM⟩ : ∃ M, M = runV l := ⟨_, rfl⟩
  rw [← hM] at HS
  rw [List.take_length, ← hM] at HOK
  have hn60 := (few_small HFB.out).1
  clear h1 h2 h3 hM HFEW HF0 HB0
  have hrows := HOK.out.hok.rev
  have hhor := HOK.out.hok.hor
  obtain ⟨r, hr⟩ : ∃ r, r = M.H.rows.length := ⟨_, rfl⟩
  have hfld : ∀ W, (Instr.field 28 (.agg #[.int .i64 M.seq, .int .i64 M.H.rows.length, .int .i64 M.H.hor]) 1).run Try.prog W = .ok (.int .i64 M.H.rows.length) W := fun _ => by kernel_rfl
  go_wp2_with (first
    | (go_at_call 13; refine (mdl_head HS.out).mono ?_; rintro e w5 ⟨rfl, h1⟩; replace HF := Lib.hid (HF.out.trans h1 (by simp)); replace HB := Lib.hid (h1.keep HB.out (by simp)); replace HS := Lib.hid (HS.out.keep h1 (by simp)); clear h1)
    | (go_at_call 11; refine go_stop ?_))
  unfold Stop
  have HQ0 := cq_next M hhor
  refine (mdl_serve (n := l.length) (cq M.H.rows.length) (.slice none 0 0) (.slice none 0 0) (.slice none 0 0) HS.out HOK.out (by omega) (RqFar.nil _ _ _ _ _ _ ⟨nil_wf, nil_wf⟩) (Nat.zero_le _) (Nat.zero_le _) (Nat.zero_le _)).mono ?_
  rintro e w6 ⟨v6, S6, rfl, h1, h2, h3, h4, h5⟩
  have hok1 := HOK.out.next (cq M.H.rows.length)
  obtain ⟨M1, hM1⟩ : ∃ M1, M1 = M.next (cq M.H.rows.length) := ⟨_, rfl⟩
  rw [← hM1] at h1 HQ0 hok1 ⊢
  have hge6 : ∀ k ∈ S6, w.heap.size < k := by
    have := h5.ge (n := w.heap.size + 1) (by have := lt_of_block HB.out; omega) (fun k hk => HG.out k hk)
    exact fun k hk => this k hk
  replace HF := Lib.hid (HF.out.trans h4 (fun k hk => Or.inr (Nat.le_of_lt (HG.out k hk))))
  replace HB := Lib.hid (h4.keep HB.out (fun hm => by have := HG.out _ hm; omega))
  replace HS := Lib.hid h1
  have HOK1 := Lib.hid hok1
  have HR1 : Hid (M1.H.rows.length = M.H.rows.length ∧ M1.H.hor = M.H.rows.length) := Lib.hid ⟨by rw [HQ0.1], HQ0.2⟩
  replace HG := Lib.hid hge6
  clear h1 h2 h3 h4 h5 hM1 hok1 hge6 HQ0 hr hfld HOK
  obtain ⟨d0, d1, d2, _⟩ := cells3 HB.out
  obtain ⟨xa, hxa⟩ := byte_of x
  obtain ⟨ya, hya⟩ := byte_of y
  obtain ⟨za, hza⟩ := byte_of z
  have cv1 := conv_one w6 w6.heap.size rfl hxa
  have cv2 := conv_one (w6.alloc (.cells #[.int .u8 (x % 26 + 97)] 5)) (w6.heap.size + 1) (by simp) hya
  have cv3 := conv_one ((w6.alloc (.cells #[.int .u8 (x % 26 + 97)] 5)).alloc (.cells #[.int .u8 (y % 26 + 97)] 5)) (w6.heap.size + 1 + 1) (by simp) hza
  clear hxa hya hza
  have hlt := lt_of_block HB.out
  have n1 : ¬ w.heap.size = w6.heap.size := by omega
  have n2 : ¬ w6.heap.size = w.heap.size := by omega
  have n3 : w.heap.size < w6.heap.size := hlt
  have n4 : ¬ w.heap.size = w6.heap.size + 1 := by omega
  have n5 : ¬ w6.heap.size + 1 = w.heap.size := by omega
  have n6 : w.heap.size < w6.heap.size + 1 := by omega
  go_wp2_with (go_at_call 20; refine go_stop ?_)
  unfold Stop
  have hal7 : Fr [] w6 (((w6.alloc (.cells #[.int .u8 (x % 26 + 97)] 5)).alloc (.cells #[.int .u8 (y % 26 + 97)] 5)).alloc (.cells #[.int .u8 (z % 26 + 97)] 5)) := (((Fr.refl [] w6).alloc _).alloc _).alloc _
  have sa := two_size 118 xa
  have sb := two_size 119 ya
  have sc := two_size 119 za
  have nba := two_ne 119 118 ya xa (by decide)
  clear cv1 cv2 cv3 hlt n1 n2 n3 n4 n5 n6 d0 d1 d2 hx8 hy8 hz8
  generalize ((w6.alloc (.cells #[.int .u8 (x % 26 + 97)] 5)).alloc (.cells #[.int .u8 (y % 26 + 97)] 5)).alloc (.cells #[.int .u8 (z % 26 + 97)] 5) = w7 at hal7 ⊢
  generalize ((⟨#[118]⟩ : ByteArray) ++ ⟨#[xa]⟩) = a at sa nba ⊢
  generalize ((⟨#[119]⟩ : ByteArray) ++ ⟨#[ya]⟩) = b at sb nba ⊢
  generalize ((⟨#[119]⟩ : ByteArray) ++ ⟨#[za]⟩) = c at sc ⊢
  have wk : (⟨#[107]⟩ : ByteArray).size ≤ maxLen := by decide
  have wa : a.size ≤ maxLen := by rw [sa]; decide
  have wb2 : b.size ≤ maxLen := by rw [sb]; decide
  have wc : c.size ≤ maxLen := by rw [sc]; decide
  have HSZ : Hid (a.size ≤ 8 ∧ b.size ≤ 8 ∧ c.size ≤ 8) := Lib.hid ⟨by omega, by omega, by omega⟩
  have NBA := Lib.hid nba
  replace HF := Lib.hid (HF.out.trans hal7 (by simp))
  replace HS := Lib.hid (HS.out.keep hal7 (by simp))
  have HG0 : Hid (∀ k ∈ S6, w.heap.size ≤ k) := Lib.hid (fun k hk => Nat.le_of_lt (HG.out k hk))
  clear hal7 nba sa sb sc HB HG
  have HP := Lib.hid (ms_one (M := M1) (k := ⟨#[107]⟩) (v := a) ⟨wk, wa⟩ (by decide) (by decide) HSZ.out.1 (by have := HR1.out; omega) (by have := HR1.out; omega))
  -- the put
  refine (txn_putN ⟨#[107]⟩ a ⟨wk, wa⟩ _).mono ?_
  rintro e w8 ⟨cv, tv, ev, rfl, hq, hnew, h1⟩
  have HQ := Lib.hid (RqFar.of_new (S := S6) hq hnew HS.out.lt)
  replace HF := Lib.hid (HF.out.trans h1 (by simp))
  replace HS := Lib.hid (HS.out.keep h1 (by simp))
  clear hq hnew h1
  go_wp2_with (go_at_call 11; refine (mdl_serve (n := l.length + 1) (putQ ⟨#[107]⟩ a ⟨wk, wa⟩) cv tv ev HS.out HOK1.out (by omega) HQ.out (by simp [putQ]) (by simp [putQ]) (by simp [putQ])).mono ?_; rintro e w9 ⟨v9, S9, rfl, h1, h2, h3, h4, h5⟩; rw [HP.out.1, HP.out.2.1]; refine go_stop ?_)
  unfold Stop
  obtain ⟨LX, hLX⟩ : ∃ L, L = M1.tell (putQ ⟨#[107]⟩ a ⟨wk, wa⟩) := ⟨_, rfl⟩
  rw [← hLX] at h2
  obtain ⟨sX, cX, rfl, _, _⟩ := h2.form
  have hok := HOK1.out.next (putQ ⟨#[107]⟩ a ⟨wk, wa⟩)
  have hfacts := HP.out.2.2
  obtain ⟨M2, hM2⟩ : ∃ M, M = M1.next (putQ ⟨#[107]⟩ a ⟨wk, wa⟩) := ⟨_, rfl⟩
  rw [← hM2] at h1 hok hfacts ⊢
  have HOK1n := Lib.hid hok
  have HPX := Lib.hid hfacts
  have hal : Fr [] w9 (w9.alloc (.cells #[.int .i64 M2.seq, .int .i64 M2.H.rows.length, .int .i64 M2.H.hor, .int .i64 0, .bool true, .slice sX LX.length cX] 32)) := (Fr.refl [] w9).alloc _
  have HBX := Lib.hid (new_block w9 (.cells #[.int .i64 M2.seq, .int .i64 M2.H.rows.length, .int .i64 M2.H.hor, .int .i64 0, .bool true, .slice sX LX.length cX] 32))
  have HBNX : Hid (w9.heap.size ∉ S9) := Lib.hid (fun hm => by have := h1.lt _ hm; omega)
  have hge := h5.ge HF.out.size HG0.out
  replace HF := Lib.hid ((HF.out.trans h4 (fun k hk => Or.inr (HG0.out k hk))).trans hal (by simp))
  replace HG0 := Lib.hid hge
  replace HS := Lib.hid (h1.keep hal (by simp))
  clear h1 h2 h3 h4 h5 hal hge hLX hM2 hok hfacts HQ HP
  have HP := Lib.hid (ms_two (M := M2) (k := ⟨#[107]⟩) (a := a) (b := b) wk wa wb2 (by decide) (by decide) HSZ.out.1 HSZ.out.2.1 HPX.out.2.2 rfl (by have := HPX.out.1; have := HR1.out; omega) (by have := HPX.out; have := HR1.out; omega))
  go_wp2_with (go_at_call 21; refine (txn_swapN ⟨#[107]⟩ a b wk wa wb2 _).mono ?_; rintro e w10 ⟨cv, tv, ev, rfl, hq, hnew, h1⟩; refine go_stop ?_)
  unfold Stop
  have HQ := Lib.hid (RqFar.of_new (S := S9) hq hnew (HS.out.keep ((Fr.refl [] _)) (by simp)).lt)
  replace HF := Lib.hid (HF.out.trans h1 (by simp))
  replace HS := Lib.hid (HS.out.keep h1 (by simp))
  replace HBX := Lib.hid (h1.keep HBX.out (by simp))
  clear hq hnew h1
  go_wp2_with (go_at_call 11; refine (mdl_serve (n := l.length + 2) (swapQ ⟨#[107]⟩ a b wk wa wb2) cv tv ev HS.out HOK1n.out (by omega) HQ.out (by simp [swapQ]) (by simp [swapQ]) (by simp [swapQ])).mono ?_; rintro e w11 ⟨v9, S11, rfl, h1, h2, h3, h4, h5⟩; rw [HP.out.1, HP.out.2.1]; refine go_stop ?_)
  unfold Stop
  obtain ⟨LY, hLY⟩ : ∃ L, L = M2.tell (swapQ ⟨#[107]⟩ a b wk wa wb2) := ⟨_, rfl⟩
  rw [← hLY] at h2
  obtain ⟨sY, cY, rfl, _, _⟩ := h2.form
  have hok := HOK1n.out.next (swapQ ⟨#[107]⟩ a b wk wa wb2)
  have hfacts := HP.out.2.2
  obtain ⟨M3, hM3⟩ : ∃ M, M = M2.next (swapQ ⟨#[107]⟩ a b wk wa wb2) := ⟨_, rfl⟩
  rw [← hM3] at h1 hok hfacts ⊢
  have HOK1nn := Lib.hid hok
  have HPY := Lib.hid hfacts
  have hal : Fr [] w11 (w11.alloc (.cells #[.int .i64 M3.seq, .int .i64 M3.H.rows.length, .int .i64 M3.H.hor, .int .i64 0, .bool true, .slice sY LY.length cY] 32)) := (Fr.refl [] w11).alloc _
  have hbl := lt_of_block HBX.out
  replace HBX := Lib.hid (hal.keep (h4.keep HBX.out HBNX.out) (by simp))
  replace HBNX := Lib.hid (not_grow h5 HBNX.out hbl)
  clear hbl
  have HBY := Lib.hid (new_block w11 (.cells #[.int .i64 M3.seq, .int .i64 M3.H.rows.length, .int .i64 M3.H.hor, .int .i64 0, .bool true, .slice sY LY.length cY] 32))
  have HBNY : Hid (w11.heap.size ∉ S11) := Lib.hid (fun hm => by have := h1.lt _ hm; omega)
  have hge := h5.ge HF.out.size HG0.out
  replace HF := Lib.hid ((HF.out.trans h4 (fun k hk => Or.inr (HG0.out k hk))).trans hal (by simp))
  replace HG0 := Lib.hid hge
  replace HS := Lib.hid (h1.keep hal (by simp))
  clear h1 h2 h3 h4 h5 hal hge hLY hM3 hok hfacts HQ HP
  have HP := Lib.hid (ms_three (M := M3) (k := ⟨#[107]⟩) (a := a) (b := c) wk wa wc (by decide) (by decide) HSZ.out.1 HSZ.out.2.2 HPY.out.2.2 NBA.out)
  go_wp2_with (go_at_call 21; refine (txn_swapN ⟨#[107]⟩ a c wk wa wc _).mono ?_; rintro e w12 ⟨cv, tv, ev, rfl, hq, hnew, h1⟩; refine go_stop ?_)
  unfold Stop
  have HQ := Lib.hid (RqFar.of_new (S := S11) hq hnew (HS.out.keep ((Fr.refl [] _)) (by simp)).lt)
  replace HF := Lib.hid (HF.out.trans h1 (by simp))
  replace HS := Lib.hid (HS.out.keep h1 (by simp))
  replace HBX := Lib.hid (h1.keep HBX.out (by simp))
  replace HBY := Lib.hid (h1.keep HBY.out (by simp))
  clear hq hnew h1
  go_wp2_with (go_at_call 11; refine (mdl_serve (n := l.length + 3) (swapQ ⟨#[107]⟩ a c wk wa wc) cv tv ev HS.out HOK1nn.out (by omega) HQ.out (by simp [swapQ]) (by simp [swapQ]) (by simp [swapQ])).mono ?_; rintro e w13 ⟨v9, S13, rfl, h1, h2, h3, h4, h5⟩; rw [HP.out.1, HP.out.2.1]; refine go_stop ?_)
  unfold Stop
  obtain ⟨LZ, hLZ⟩ : ∃ L, L = M3.tell (swapQ ⟨#[107]⟩ a c wk wa wc) := ⟨_, rfl⟩
  rw [← hLZ] at h2
  obtain ⟨sZ, cZ, rfl, _, _⟩ := h2.form
  have hok := HOK1nn.out.next (swapQ ⟨#[107]⟩ a c wk wa wc)
  have hfacts := HP.out.2.2
  obtain ⟨M4, hM4⟩ : ∃ M, M = M3.next (swapQ ⟨#[107]⟩ a c wk wa wc) := ⟨_, rfl⟩
  rw [← hM4] at h1 hok hfacts ⊢
  have HOK1nnn := Lib.hid hok
  have HPZ := Lib.hid hfacts
  have hal : Fr [] w13 (w13.alloc (.cells #[.int .i64 M4.seq, .int .i64 M4.H.rows.length, .int .i64 M4.H.hor, .int .i64 0, .bool false, .slice sZ LZ.length cZ] 32)) := (Fr.refl [] w13).alloc _
  have hbl := lt_of_block HBX.out
  replace HBX := Lib.hid (hal.keep (h4.keep HBX.out HBNX.out) (by simp))
  replace HBNX := Lib.hid (not_grow h5 HBNX.out hbl)
  clear hbl
  have hbl := lt_of_block HBY.out
  replace HBY := Lib.hid (hal.keep (h4.keep HBY.out HBNY.out) (by simp))
  replace HBNY := Lib.hid (not_grow h5 HBNY.out hbl)
  clear hbl
  have HBZ := Lib.hid (new_block w13 (.cells #[.int .i64 M4.seq, .int .i64 M4.H.rows.length, .int .i64 M4.H.hor, .int .i64 0, .bool false, .slice sZ LZ.length cZ] 32))
  have HBNZ : Hid (w13.heap.size ∉ S13) := Lib.hid (fun hm => by have := h1.lt _ hm; omega)
  have hge := h5.ge HF.out.size HG0.out
  replace HF := Lib.hid ((HF.out.trans h4 (fun k hk => Or.inr (HG0.out k hk))).trans hal (by simp))
  replace HG0 := Lib.hid hge
  replace HS := Lib.hid (h1.keep hal (by simp))
  clear h1 h2 h3 h4 h5 hal hge hLZ hM4 hok hfacts HQ HP
  have hh4 := HOK1nnn.out.hok.hor
  have hmap : M4.map = M3.map := by unfold MA.map; rw [HPZ.out]
  have hx4 : getK ⟨#[107]⟩ M4.map = some ⟨⟨#[107]⟩, b, M2.H.rows.length + 1, wk, wb2⟩ := by rw [hmap]; exact HPY.out.2.2
  have HT := Lib.hid (oq_tell hh4 (k := ⟨#[107]⟩) (t := ⟨#[107, 0]⟩) (by simp [mayRangeB, emptyB, ByteArray.toList_eq, ls, Op.bytesLess]) hx4 (by simp [ByteArray.toList_eq]))
  have HR4 : Hid (M4.H.rows.length = M3.H.rows.length ∧ M3.H.rows.length = M2.H.rows.length + 1) := Lib.hid ⟨by rw [HPZ.out], HPY.out.1⟩
  clear hh4 hmap hx4
  go_wp2_with (go_at_call 11; refine go_stop ?_)
  unfold Stop
  generalize w13.alloc (.cells #[.int .i64 M4.seq, .int .i64 M4.H.rows.length, .int .i64 M4.H.hor, .int .i64 0, .bool false, .slice sZ LZ.length cZ] 32) = w14 at *
  refine (mdl_serve (n := l.length + 4) (oq ⟨#[107]⟩ ⟨#[107, 0]⟩) (.slice none 0 0) (.slice none 0 0) (.slice none 0 0) HS.out HOK1nnn.out (by omega) (RqFar.nil _ _ _ _ _ _ ⟨by decide, by decide⟩) (Nat.zero_le _) (Nat.zero_le _) (Nat.zero_le _)).mono ?_
  rintro e w15 ⟨v15, S15, rfl, h1, h2, h3, h4, h5⟩
  rw [HT.out.2] at h1 ⊢
  rw [HT.out.1] at h2
  generalize M4.err (oq ⟨#[107]⟩ ⟨#[107, 0]⟩) = e4
  generalize M4.ok (oq ⟨#[107]⟩ ⟨#[107, 0]⟩) = k4
  obtain ⟨g, off, cc, rfl, hg, _, hk⟩ := KvIn.here h2.lin (by simp)
  have hk0 := hk 0 _ rfl
  have hal : Fr [] w15 (w15.alloc (.cells #[.int .i64 M4.seq, .int .i64 M4.H.rows.length, .int .i64 M4.H.hor, .int .i64 e4, .bool k4, .slice (some ⟨g, off, none⟩) 1 cc] 32)) := (Fr.refl [] w15).alloc _
  have HBR := Lib.hid (new_block w15 (.cells #[.int .i64 M4.seq, .int .i64 M4.H.rows.length, .int .i64 M4.H.hor, .int .i64 e4, .bool k4, .slice (some ⟨g, off, none⟩) 1 cc] 32))
  replace HBX := Lib.hid (hal.keep (h4.keep HBX.out HBNX.out) (by simp))
  replace HBY := Lib.hid (hal.keep (h4.keep HBY.out HBNY.out) (by simp))
  replace HBZ := Lib.hid (hal.keep (h4.keep HBZ.out HBNZ.out) (by simp))
  replace HF := Lib.hid ((HF.out.trans h4 (fun k hk => Or.inr (HG0.out k hk))).trans hal (by simp))
  have HKV := Lib.hid (hk0.keep hal (by simp))
  clear h1 h2 h3 h4 h5 hal hk hk0 hg HBNX HBNY HBNZ HG0 HS
  simp only [List.length_cons, List.length_nil, Nat.zero_add]
  go_upto_region 13 with fail
  generalize w15.alloc (.cells #[.int .i64 M4.seq, .int .i64 M4.H.rows.length, .int .i64 M4.H.hor, .int .i64 e4, .bool k4, .slice (some ⟨g, off, none⟩) 1 cc] 32) = w16 at HBR HBX HBY HBZ HF HKV ⊢
  obtain ⟨x0, x1, x2, x3, x4, x5, _⟩ := cells6 HBX.out
  obtain ⟨y0, y1, y2, y3, y4, y5, _⟩ := cells6 HBY.out
  obtain ⟨z0, z1, z2, z3, z4, z5, _⟩ := cells6 HBZ.out
  obtain ⟨r0, r1, r2, r3, r4, r5, _⟩ := cells6 HBR.out
  obtain ⟨k0, k1, k2⟩ := HKV.out
  have g1 : ((M2.H.rows.length : Int) + 1 == (M3.H.rows.length : Int)) = true := by have := HR4.out; simp; omega
  have g2 : ((M4.H.rows.length : Int) == (M3.H.rows.length : Int)) = true := by have := HR4.out; simp; omega
  go_upto_region 14 with fail
  simp only [Nat.zero_mul, Nat.add_zero] at k1 k2
  have A0 := fun n : After [] w16 => n.cell x4 (by simp)
  have A1 := fun n : After [] w16 => n.cell y4 (by simp)
  have A2 := fun n : After [] w16 => n.cell z4 (by simp)
  have A3 := fun n : After [] w16 => n.cell r5 (by simp)
  have A4 := fun n : After [] w16 => n.cell y1 (by simp)
  have A5 := fun n : After [] w16 => n.cell z1 (by simp)
  have A6 := fun n : After [] w16 => n.cell k1 (by simp)
  have A7 := fun n : After [] w16 => n.cell k2 (by simp)
  clear k0 k1 k2 x0 x1 x2 x3 x4 x5 y0 y1 y2 y3 y4 y5 z0 z1 z2 z3 z4 z5 r0 r1 r2 r3 r4 r5
  refine wp_region_after [] (by kernel_rfl) (by kernel_rfl) ?_
  repeat (go_big_quiet_step (fail))
  refine wpQuiet_nil ?_
  rintro _ ⟨nq, rfl⟩
  have HZ := Lib.hid (HF.out.trans nq.fr (by simp))
  clear A0 A1 A2 A3 A4 A5 A6 A7
  go_wp2_with fail
  go_ret
  exact ⟨rfl, HZ.out.below (Nat.le_refl _) (by simp)⟩

set_option maxRecDepth 100000 in
theorem contract (H : Type) (enc : TypeId × Value → H) (W : World) (base : Nat) (args : Array Value) (ds gs : List (DataW H)) (before : List MemPlace)
    (hval0 : ∀ (j : Nat) t v, Try.f6.params[j]? = some t → args[j]? = some v → Value.okWide Try.prog W .any base t v)
    (hW : DataW.Whole enc Try.prog Try.f6.params.toList Rows.modelSwapsSpec.vars false W args.toList ds gs before) :
    Calls Try.prog 6 args W fun e W' => ∃ v, e = .returned v ∧ Rows.modelSwapsSpec.post enc Try.prog Try.f6 false true false false W args v W' := by
  have hval : ∀ (j : Nat) t v, Try.f6.params[j]? = some t → args[j]? = some v → Value.okWide Try.prog W .any base t v := hval0
  have hW' := hW
  obtain ⟨p, q, hA0, hV, rfl, hfz, hnd⟩ := hW
  have hA : DataW.TrodAll enc Try.prog W 0 (fun _ => true) true Try.f6.params.toList args.toList ds p := hA0
  rw [Try.params6] at hA hval
  obtain ⟨v0, vs0, d0, ds0, p0, q0, hargs, rfl, rfl, h0, r0⟩ := trodAll_cons hA
  obtain ⟨v1, vs1, d1, ds1, p1, q1, rfl, rfl, rfl, h1, r1⟩ := trodAll_cons r0
  obtain ⟨rfl, rfl, rfl⟩ := trodAll_nil r1
  obtain rfl : args = #[v0, v1] := by cases args; simp_all
  obtain ⟨rfl, rfl⟩ := trodVars_none hV
  have k0 := h0
  have lt0 : ∀ x ∈ p0, x.block < W.heap.size := by obtain ⟨m, hm⟩ := k0; exact DataW.trod_lt m _ _ _ hm
  have k1 := h1
  have lt1 : ∀ x ∈ p1, x.block < W.heap.size := by obtain ⟨m, hm⟩ := k1; exact DataW.trod_lt m _ _ _ hm
  obtain ⟨l, hl⟩ := open_reqs (hval 0 22 v0 rfl rfl) h0
  obtain ⟨x, y, z, rfl, wx, wy, wz⟩ := open_three8 (hval 1 51 v1 rfl rfl) h1
  clear hA0 hval0 hval
  refine (walk v0 l x y z W hl wx wy wz).mono fun e W' ⟨he, bel⟩ => ?_
  subst he
  exact ⟨_, rfl, _, _, _, [], _, [], hW', trodAll_mk1 (shut_bool Try.underlying4 _), (trodAll_cons_mk (Below.trod laid_prog (by kernel_rfl) (of_decide_eq_true (by kernel_rfl)) k0 bel lt0) (trodAll_cons_mk (Below.trod laid_prog (by kernel_rfl) (of_decide_eq_true (by kernel_rfl)) k1 bel lt1) trodAll_mk0)), rfl, bel.frame _, fun h => by cases h⟩

set_option maxRecDepth 100000 in
theorem lifted (os : Os) (started : os.Started) (H : Type) (enc : TypeId × Value → H) :
    ReturnsInHanded {} Try.checked os 6 .any (Rows.modelSwapsSpec.pre6 enc Try.prog Try.f6 Rows.modelSwapsRow.domain false) (Rows.modelSwapsSpec.post enc Try.prog Try.f6 false true false false) := by
  refine returnsInHanded_of_change (C := Try.checked) own_prog started (by kernel_rfl) Try.func6
    (ChangeSpec.witness6 (enc := enc) (C := Try.checked) false ⟨#[], #[.slice none 0 0, .agg #[.int .u8 0, .int .u8 0, .int .u8 0]], []⟩ 8 (by kernel_rfl) (by kernel_rfl) (by kernel_rfl) (by kernel_rfl)) ?_
  intro W base args ds gs before hval hW _ _
  exact contract H enc W base args ds gs before hval hW

theorem proved : Rows.ModelSwapsSaid :=
  OpenClaim.holds_of_wide 6 Try.f6 rfl rfl rfl rfl rfl rfl rfl ⟨rfl, rfl, rfl, rfl, rfl⟩ rfl rfl rfl rfl rfl (by kernel_rfl) Try.func6 (by kernel_rfl)
    (of_decide_eq_true (by kernel_rfl)) (by unfold Func.isWrapper; first | (rw [if_pos (by decide +kernel)]; kernel_rfl) | (rw [if_neg (by decide +kernel)]; exact ⟨rfl, rfl⟩))
    (fun os started H enc _ => lifted os started H enc)

end Go.Proofs.Ytlklmmpblgcaoaa.lawModelSwaps
