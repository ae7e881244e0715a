/- PACKAGE txn: its contracts -/
import Derived.Test.YtjclbgeclopheaaTxOk
import Derived.Test.YtjclbgeclopheaaKeyMr
namespace Go.Proofs.Ytjclbgeclopheaa
open Go.RowKit
set_option linter.unusedVariables false
set_option linter.unusedSimpArgs false

set_option maxHeartbeats 1000000 in
theorem tx_may (q : Rq) (cv tv ev : Value) (w : World) (h : RqIn w q cv tv ev) : Calls Try.prog 31 #[.agg #[.int .i64 q.kind, .string q.f, .string q.t, .int .i64 q.rev, cv, tv, ev]] w fun e w' => e = .returned (.bool (mayQ q)) ∧ Fr [] w w' := by
  obtain ⟨s1, c1, rfl, la1, ma1⟩ := LIn.form h.c
  obtain ⟨s2, c2, rfl, la2, ma2⟩ := LIn.form h.t
  obtain ⟨s3, c3, rfl, la3, ma3⟩ := LIn.form h.e
  obtain ⟨wb, hwb⟩ : ∃ wb, wb = w.alloc (rqB q (.slice s1 q.cmps.length c1) (.slice s2 q.thn.length c2) (.slice s3 q.els.length c3)) := ⟨_, rfl⟩
  have HWB : Hid (wb = w.alloc (.cells #[.int .i64 q.kind, .string q.f, .string q.t, .int .i64 q.rev, .slice s1 q.cmps.length c1, .slice s2 q.thn.length c2, .slice s3 q.els.length c3] 28)) := Lib.hid hwb
  have HF : Hid (Fr [] w wb) := Lib.hid (by rw [hwb]; exact (Fr.refl [] w).alloc _)
  have HR := Lib.hid (h.keep0 HF.out)
  have HX : Hid (wb.heap[w.heap.size]? = some (.cells #[.int .i64 q.kind, .string q.f, .string q.t, .int .i64 q.rev, .slice s1 q.cmps.length c1, .slice s2 q.thn.length c2, .slice s3 q.els.length c3] 28 (0, 0))) := Lib.hid (by rw [hwb]; exact new_block w _)
  obtain ⟨d0, d1, d2, d3, d4, d5, d6, _⟩ := cells7 HX.out
  have HKD : Hid (∃ k, q.kind = k) := Lib.hid ⟨_, rfl⟩
  clear hwb h
  by_cases h1 : q.kind = 1
  · have HE : Hid (mayQ q = mayTB q) := Lib.hid (by unfold mayQ mayTB; rw [if_pos h1])
    have t1 : (q.kind == 1) = true := by simpa using h1
    clear h1
    go_enter Try.func31, Try.ntmps31
    go_upto_region 1 with fail
    rw [← HWB.out]
    go_wp2_with (go_at_call 45; refine (tx_mayTxn q _ _ _ _ HR.out).mono ?_; rintro e w1 ⟨rfl, hf⟩; refine go_stop ?_)
    unfold Stop
    have HZ := Lib.hid (HF.out.trans hf (by simp))
    clear hf
    go_wp2
    go_ret
    exact ⟨by rw [HE.out]; rfl, HZ.out⟩
  · have t1 : (q.kind == 1) = false := by simpa using h1
    by_cases h2 : q.kind = 2
    · have HE : Hid (mayQ q = (mayRangeB q.f.toList q.t.toList && decide (0 ≤ q.rev))) := Lib.hid (by unfold mayQ; rw [if_neg h1, if_pos h2])
      have t2 : (q.kind == 2) = true := by simpa using h2
      clear h1 h2
      go_enter Try.func31, Try.ntmps31
      go_upto_region 1 with fail
      rw [← HWB.out]
      go_wp2_with (go_at_call 46; refine (key_mayrange q.f q.t _ HR.out.wf.1 HR.out.wf.2).mono ?_; rintro e w1 ⟨rfl, hf⟩; refine go_stop ?_)
      unfold Stop
      have HZ := Lib.hid (HF.out.trans hf (by simp))
      obtain ⟨_, _, _, d3, _⟩ := cells7 (hf.keep HX.out (by simp))
      clear hf
      cases hb : mayRangeB q.f.toList q.t.toList
      · have HEN : Hid (mayQ q = false) := Lib.hid (by rw [HE.out, hb]; rfl)
        clear hb
        go_wp2
        go_ret
        exact ⟨by rw [HEN.out]; rfl, HZ.out⟩
      · have HEN : Hid (mayQ q = decide (0 ≤ q.rev)) := Lib.hid (by rw [HE.out, hb]; rfl)
        clear hb
        go_wp2
        go_ret
        exact ⟨by rw [HEN.out]; rfl, HZ.out⟩
    · have t2 : (q.kind == 2) = false := by simpa using h2
      by_cases h3 : q.kind = 3
      · have HE : Hid (mayQ q = decide (0 ≤ q.rev)) := Lib.hid (by unfold mayQ; rw [if_neg h1, if_neg h2, if_pos h3])
        have t3 : (q.kind == 3) = true := by simpa using h3
        clear h1 h2 h3
        go_enter Try.func31, Try.ntmps31
        go_upto_region 1 with fail
        rw [← HWB.out]
        go_wp2
        go_ret
        exact ⟨by rw [HE.out]; rfl, HF.out⟩
      · have HE : Hid (mayQ q = false) := Lib.hid (by unfold mayQ; rw [if_neg h1, if_neg h2, if_neg h3])
        have t3 : (q.kind == 3) = false := by simpa using h3
        clear h1 h2 h3
        go_enter Try.func31, Try.ntmps31
        go_upto_region 1 with fail
        rw [← HWB.out]
        go_wp2
        go_ret
        exact ⟨by rw [HE.out]; rfl, HF.out⟩
set_option maxHeartbeats 1000000 in
theorem txn_may (q : Rq) (cv tv ev : Value) (w : World) (h : RqIn w q cv tv ev) : Calls Try.prog 15 #[.agg #[.int .i64 q.kind, .string q.f, .string q.t, .int .i64 q.rev, cv, tv, ev]] w fun e w' => e = .returned (.int .i64 (mayE q)) ∧ Fr [] w w' := by
  obtain ⟨s1, c1, rfl, la1, ma1⟩ := LIn.form h.c
  obtain ⟨s2, c2, rfl, la2, ma2⟩ := LIn.form h.t
  obtain ⟨s3, c3, rfl, la3, ma3⟩ := LIn.form h.e
  have HF : Hid (Fr [] w (w.alloc (.cells #[.int .i64 q.kind, .string q.f, .string q.t, .int .i64 q.rev, .slice s1 q.cmps.length c1, .slice s2 q.thn.length c2, .slice s3 q.els.length c3] 28))) := Lib.hid ((Fr.refl [] w).alloc _)
  have HR := Lib.hid (h.keep0 HF.out)
  clear h
  go_enter Try.func15, Try.ntmps15
  go_wp2_with (go_at_call 31; refine (tx_may q _ _ _ _ HR.out).mono ?_; rintro e w1 ⟨rfl, hf⟩; refine go_stop ?_)
  unfold Stop
  have HZ := Lib.hid (HF.out.trans hf (by simp))
  clear hf
  cases hb : mayQ q
  all_goals
    have HE : Hid (mayE q = _) := Lib.hid (by unfold mayE; rw [hb])
    clear hb
    go_wp2
    go_ret
    exact ⟨by rw [HE.out]; rfl, HZ.out⟩
theorem txn_keys (q : Rq) (cv tv ev : Value) (w : World) (h : RqIn w q cv tv ev) (b0 : q.cmps.length ≤ 20) (b1 : q.thn.length ≤ 20) (b2 : q.els.length ≤ 20) : Calls Try.prog 11 #[.agg #[.int .i64 q.kind, .string q.f, .string q.t, .int .i64 q.rev, cv, tv, ev]] w fun e w' =>
    ∃ v ks, e = .returned v ∧ StIn w' v ks ∧ KeysOk q ks ∧ ks.length ≤ 60 ∧ Fr [] w w' := by
  refine (txn_keysG q cv tv ev w h b0 b1 b2).mono ?_
  rintro e w' ⟨v, ks, rfl, h1, h2, h3⟩
  refine ⟨v, ks, rfl, h1, ⟨h2.rise, h2.mem⟩, ?_, h3⟩
  have := h2.le
  unfold keysL at this
  simp at this; omega
set_option maxHeartbeats 1000000 in
theorem txn_holds (mv lv : Value) (m : List Kv) (l : List Cm) (w : World) (hm : KvIn w mv m) (hs : Srt Kv.key m) (hl : CmIn w lv l) (bm : m.length ≤ many) (bl : l.length ≤ many) : Calls Try.prog 23 #[mv, lv] w fun e w' => e = .returned (.bool (holdsC m l)) ∧ Fr [] w w' := by
  have HL := Lib.hid hl
  have HC := Lib.hid (tx_byKey mv m w hm hs bm)
  have HBL := Lib.hid bl
  clear hm hl hs bm bl
  go_enter Try.func23, Try.ntmps23
  go_wp2_with (go_at_call 28; refine HC.out.mono ?_; rintro e w1 ⟨b, rfl, h1, h2, hf⟩; refine go_stop ?_)
  unfold Stop
  have HM := Lib.hid h1
  have HF := Lib.hid hf
  clear h1 h2 hf
  go_wp2_with (go_at_call 29; refine (tx_allHold b _ m _ l _ HM.out (LIn.keep0 HL.out HF.out) HBL.out).mono ?_; rintro e w2 ⟨rfl, hf⟩; refine go_stop ?_)
  unfold Stop
  have HZ := Lib.hid (HF.out.trans hf (by simp))
  clear hf
  go_wp2
  go_ret
  exact ⟨rfl, HZ.out⟩
set_option maxHeartbeats 1000000 in
theorem txn_plan (mv : Value) (m : List Kv) (q : Rq) (cv tv ev : Value) (w : World) (hm : KvIn w mv m) (hs : Srt Kv.key m) (h : RqIn w q cv tv ev) (bm : m.length ≤ many) (b0 : q.cmps.length ≤ many) (b1 : q.thn.length ≤ many) (b2 : q.els.length ≤ many) :
    Calls Try.prog 13 #[mv, .agg #[.int .i64 q.kind, .string q.f, .string q.t, .int .i64 q.rev, cv, tv, ev]] w fun e w' =>
      ∃ v, e = .returned (.tuple #[.bool (holdsC m q.cmps), v]) ∧ OdIn w' v (planL m q) ∧ (∀ S : List Nat, (∀ k ∈ S, k < w.heap.size) → LFar S Od.cells 3 w tv q.thn → LFar S Od.cells 3 w ev q.els → LFar S Od.cells 3 w' v (planL m q)) ∧ Fr [] w w' := by
  obtain ⟨s0, c0, rfl, la0, ma0⟩ := LIn.form hm
  obtain ⟨s1, c1, rfl, la1, ma1⟩ := LIn.form h.c
  obtain ⟨s2, c2, rfl, la2, ma2⟩ := LIn.form h.t
  obtain ⟨s3, c3, rfl, la3, ma3⟩ := LIn.form h.e
  obtain ⟨wb, hwb⟩ : ∃ wb, wb = w.alloc (rqB q (.slice s1 q.cmps.length c1) (.slice s2 q.thn.length c2) (.slice s3 q.els.length c3)) := ⟨_, rfl⟩
  have HWB : Hid (wb = w.alloc (.cells #[.int .i64 q.kind, .string q.f, .string q.t, .int .i64 q.rev, .slice s1 q.cmps.length c1, .slice s2 q.thn.length c2, .slice s3 q.els.length c3] 28)) := Lib.hid hwb
  have HF : Hid (Fr [] w wb) := Lib.hid (by rw [hwb]; exact (Fr.refl [] w).alloc _)
  have HR := Lib.hid (h.keep0 HF.out)
  have HC := Lib.hid (tx_byKey _ m wb (LIn.keep0 hm HF.out) hs bm)
  have HX : Hid (wb.heap[w.heap.size]? = some (.cells #[.int .i64 q.kind, .string q.f, .string q.t, .int .i64 q.rev, .slice s1 q.cmps.length c1, .slice s2 q.thn.length c2, .slice s3 q.els.length c3] 28 (0, 0))) := Lib.hid (by rw [hwb]; exact new_block w _)
  have HB := Lib.hid (show q.cmps.length ≤ many ∧ q.thn.length ≤ many ∧ q.els.length ≤ many from ⟨b0, b1, b2⟩)
  clear hwb h hm hs bm b0 b1 b2
  go_enter Try.func13, Try.ntmps13
  go_upto_region 1 with fail
  rw [← HWB.out]
  go_wp2_with (go_at_call 28; refine HC.out.mono ?_; rintro e w1 ⟨b, rfl, h1, h2, hf⟩; refine go_stop ?_)
  unfold Stop
  have HM := Lib.hid h1
  have HF1 := Lib.hid hf
  have HR1 := Lib.hid (HR.out.keep0 hf)
  have HX1 := Lib.hid (hf.keep HX.out (by simp))
  obtain ⟨d0, d1, d2, d3, d4, d5, d6, _⟩ := cells7 HX1.out
  clear h1 h2 hf
  go_wp2_with (go_at_call 29; refine (tx_allHold b _ m _ q.cmps _ HM.out HR1.out.c HB.out.1).mono ?_; rintro e w2 ⟨rfl, hf⟩; refine go_stop ?_)
  unfold Stop
  have HF2 := Lib.hid (HF1.out.trans hf (by simp))
  have HM2 := Lib.hid (HM.out.keep hf (by simp))
  have HR2 := Lib.hid (HR1.out.keep0 hf)
  have HX2 := Lib.hid (hf.keep HX1.out (by simp))
  obtain ⟨d0, d1, d2, d3, d4, d5, d6, _⟩ := cells7 HX2.out
  clear hf
  cases hb : holdsC m q.cmps
  · have HP : Hid (planL m q = q.els.filter (keepO m)) := Lib.hid (by unfold planL; rw [hb]; rfl)
    have HB2 := Lib.hid hb
    clear hb
    go_wp2_with (go_at_call 30; refine (tx_changing b _ m _ q.els _ HM2.out HR2.out.e HB.out.2.2).mono ?_; rintro e w3 ⟨v3, rfl, ho, hf⟩; refine go_stop ?_)
    unfold Stop
    have HO := Lib.hid ho
    have HZ := Lib.hid (HF.out.trans (HF2.out.trans hf (by simp)) (by simp))
    have hsz := HF.out.size
    have hsz2 := HF2.out.size
    clear ho hf
    go_wp2
    refine bodyPost_ret (v := .tuple #[.bool false, v3]) (by simp [results, Try.results13, go_sem]) rfl ?_
    refine ⟨_, by rw [HB2.out], by rw [HP.out]; exact LAt.read HO.out.lies Od.clen, fun S hS _ _ => ?_, HZ.out⟩
    rw [HP.out]
    exact LFar.of_new (w := w) (LAt.read HO.out.lies Od.clen) (fun k hk => by have := HO.out.new k hk; omega) hS
  · have HP : Hid (planL m q = q.thn.filter (keepO m)) := Lib.hid (by unfold planL; rw [hb]; rfl)
    have HB2 := Lib.hid hb
    clear hb
    go_wp2_with (go_at_call 30; refine (tx_changing b _ m _ q.thn _ HM2.out HR2.out.t HB.out.2.1).mono ?_; rintro e w3 ⟨v3, rfl, ho, hf⟩; refine go_stop ?_)
    unfold Stop
    have HO := Lib.hid ho
    have HZ := Lib.hid (HF.out.trans (HF2.out.trans hf (by simp)) (by simp))
    have hsz := HF.out.size
    have hsz2 := HF2.out.size
    clear ho hf
    go_wp2
    refine bodyPost_ret (v := .tuple #[.bool true, v3]) (by simp [results, Try.results13, go_sem]) rfl ?_
    refine ⟨_, by rw [HB2.out], by rw [HP.out]; exact LAt.read HO.out.lies Od.clen, fun S hS _ _ => ?_, HZ.out⟩
    rw [HP.out]
    exact LFar.of_new (w := w) (LAt.read HO.out.lies Od.clen) (fun k hk => by have := HO.out.new k hk; omega) hS
/-- a request's slices are new -/
def NewV (w : World) (cv tv ev : Value) : Prop := ∀ v k, v = cv ∨ v = tv ∨ v = ev → v.ownBlock = some k → w.heap.size ≤ k
theorem one_row {α : Type} {cs : α → List Value} {sz : Nat} {e : TypeId} (w : World) (x : α) (hc : ∀ x, (cs x).length = sz) (B : Nat) (hB : w.heap.size = B) (o : Obj) (ho : o = .cells (cs x).toArray e) : LIn cs sz (w.alloc o) (.slice (some ⟨B, 0, none⟩) 1 1) [x] := by
  subst ho
  have h := lies_row w e (cs x) (hc x) B hB
  refine LAt.read (e := e) ?_ hc
  unfold LAt
  rw [allC_one]; exact h
theorem nil_wf : (⟨#[]⟩ : ByteArray).size ≤ maxLen := by decide
set_option maxHeartbeats 1000000 in
theorem txn_putP (k v : ByteArray) (wf : k.size ≤ maxLen ∧ v.size ≤ maxLen) (w : World) : Calls Try.prog 20 #[.string k, .string v] w fun e w' =>
    ∃ s c, e = .returned (.agg #[.int .i64 1, .string ⟨#[]⟩, .string ⟨#[]⟩, .int .i64 0, .slice none 0 0, .slice s 1 c, .slice none 0 0]) ∧ OdIn w' (.slice s 1 c) [(⟨k, v, false, wf⟩ : Od)] ∧ (∀ j, (Value.slice s 1 c).ownBlock = some j → w.heap.size ≤ j) ∧ Fr [] w w' := by
  go_enter Try.func20, Try.ntmps20
  go_wp2
  refine bodyPost_ret (v := .agg #[.int .i64 1, .string ⟨#[]⟩, .string ⟨#[]⟩, .int .i64 0, .slice none 0 0, .slice (some ⟨w.heap.size + 1, 0, none⟩) 1 1, .slice none 0 0]) (by simp [results, Try.results20, go_sem]) rfl ?_
  refine ⟨_, _, rfl, one_row _ (⟨k, v, false, wf⟩ : Od) Od.clen _ (by simp) _ rfl, fun j hj => ?_, ((Fr.refl [] w).alloc _).alloc _⟩
  simp [Value.ownBlock] at hj
  omega
theorem txn_putN (k v : ByteArray) (wf : k.size ≤ maxLen ∧ v.size ≤ maxLen) (w : World) : Calls Try.prog 20 #[.string k, .string v] w fun e w' =>
    ∃ cv tv ev, e = .returned (rqA (putQ k v wf) cv tv ev) ∧ RqIn w' (putQ k v wf) cv tv ev ∧ NewV w cv tv ev ∧ Fr [] w w' := by
  refine (txn_putP k v wf w).mono ?_
  rintro e w' ⟨s, c, rfl, h1, h2, h3⟩
  refine ⟨_, _, _, rfl, ⟨LIn.nil _, h1, LIn.nil _, nil_wf, nil_wf⟩, ?_, h3⟩
  rintro u j (rfl | rfl | rfl) hj
  · simp [Value.ownBlock] at hj
  · exact h2 j hj
  · simp [Value.ownBlock] at hj
theorem txn_put (k v : ByteArray) (wf : k.size ≤ maxLen ∧ v.size ≤ maxLen) (w : World) : Calls Try.prog 20 #[.string k, .string v] w fun e w' =>
    ∃ cv tv ev, e = .returned (rqA (putQ k v wf) cv tv ev) ∧ RqIn w' (putQ k v wf) cv tv ev ∧ Fr [] w w' := by
  refine (txn_putN k v wf w).mono ?_
  rintro e w' ⟨cv, tv, ev, rfl, h1, _, h2⟩
  exact ⟨cv, tv, ev, rfl, h1, h2⟩
set_option maxHeartbeats 1000000 in
theorem txn_del (k : ByteArray) (wf : k.size ≤ maxLen) (w : World) : Calls Try.prog 21 #[.string k] w fun e w' =>
    ∃ cv tv ev, e = .returned (rqA (delQ k wf) cv tv ev) ∧ RqIn w' (delQ k wf) cv tv ev ∧ Fr [] w w' := by
  go_enter Try.func21, Try.ntmps21
  go_wp2
  refine bodyPost_ret (v := .agg #[.int .i64 1, .string ⟨#[]⟩, .string ⟨#[]⟩, .int .i64 0, .slice none 0 0, .slice (some ⟨w.heap.size + 1, 0, none⟩) 1 1, .slice none 0 0]) (by simp [results, Try.results21, go_sem]) rfl ?_
  exact ⟨_, _, _, rfl, ⟨LIn.nil _, one_row _ (⟨k, ⟨#[]⟩, true, wf, nil_wf⟩ : Od) Od.clen _ (by simp) _ rfl, LIn.nil _, nil_wf, nil_wf⟩, ((Fr.refl [] w).alloc _).alloc _⟩
set_option maxHeartbeats 1000000 in
theorem txn_swapN (k a b : ByteArray) (wf : k.size ≤ maxLen) (wa : a.size ≤ maxLen) (wb : b.size ≤ maxLen) (w : World) : Calls Try.prog 22 #[.string k, .string a, .string b] w fun e w' =>
    ∃ cv tv ev, e = .returned (rqA (swapQ k a b wf wa wb) cv tv ev) ∧ RqIn w' (swapQ k a b wf wa wb) cv tv ev ∧ NewV w cv tv ev ∧ Fr [] w w' := by
  go_enter Try.func22, Try.ntmps22
  go_wp2_with (go_at_call 20; refine (txn_putP k b ⟨wf, wb⟩ _).mono ?_; rintro e w1 ⟨s, c, rfl, h1, h2, hf⟩; refine go_stop ?_)
  unfold Stop
  have hblk := hf.keep (new_block w _) (by simp)
  have hsz := hf.size
  simp at hsz
  have n1 : ¬ w.heap.size = w1.heap.size := by omega
  have n2 : ¬ w1.heap.size = w.heap.size := by omega
  have n3 : w.heap.size < w1.heap.size := by omega
  obtain ⟨d0, d1, d2, d3, d4, d5, d6, dz⟩ := cells7 hblk
  have H1 := Lib.hid h1
  have H2 := Lib.hid h2
  have HF := Lib.hid hf
  clear h1 h2 hf hblk
  go_wp2
  refine bodyPost_ret (v := .agg #[.int .i64 1, .string ⟨#[]⟩, .string ⟨#[]⟩, .int .i64 0, .slice (some ⟨w1.heap.size + 1, 0, none⟩) 1 1, .slice s 1 c, .slice none 0 0]) (by simp [results, Try.results22, go_sem, *]) rfl ?_
  refine ⟨_, _, _, rfl, ⟨one_row _ (⟨1, k, a, 0, wf, wa⟩ : Cm) Cm.clen _ (by simp) _ rfl, LIn.keep0 (LFar.keep (S := [w.heap.size]) ⟨H1.out, fun _ j hj => by have := H2.out j hj; simp at this ⊢; omega⟩ ((((((((Fr.refl [w.heap.size] w1).setCell (Or.inl (by simp)) _).setCell (Or.inl (by simp)) _).setCell (Or.inl (by simp)) _).setCell (Or.inl (by simp)) _).setCell (Or.inl (by simp)) _).setCell (Or.inl (by simp)) _).setCell (Or.inl (by simp)) _)).lin (((Fr.refl [] _).alloc _).alloc _), LIn.nil _, nil_wf, nil_wf⟩, ?_, ?_⟩
  · rintro u j (rfl | rfl | rfl) hj
    · simp [Value.ownBlock] at hj; omega
    · have := H2.out j hj; simp at this; omega
    · simp [Value.ownBlock] at hj
  · exact ((Fr.set7 (((Fr.refl [] w).alloc _).trans HF.out (by simp)) (Nat.le_refl _) _ _ _ _ _ _ _).alloc _).alloc _
theorem txn_swap (k a b : ByteArray) (wf : k.size ≤ maxLen) (wa : a.size ≤ maxLen) (wb : b.size ≤ maxLen) (w : World) : Calls Try.prog 22 #[.string k, .string a, .string b] w fun e w' =>
    ∃ cv tv ev, e = .returned (rqA (swapQ k a b wf wa wb) cv tv ev) ∧ RqIn w' (swapQ k a b wf wa wb) cv tv ev ∧ Fr [] w w' := by
  refine (txn_swapN k a b wf wa wb w).mono ?_
  rintro e w' ⟨cv, tv, ev, rfl, h1, _, h2⟩
  exact ⟨cv, tv, ev, rfl, h1, h2⟩
end Go.Proofs.Ytjclbgeclopheaa
