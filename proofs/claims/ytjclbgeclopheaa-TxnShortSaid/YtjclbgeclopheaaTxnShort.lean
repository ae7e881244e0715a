/- The short requests may be, if their keys and values may; they do what they say: for every map, key and two values. No condition. -/
import Derived.Test.YtjclbgeclopheaaTxAwake
import Derived.Test.YtjclbgeclopheaaTxLaw
import Derived.Test.YtjclbgeclopheaaEvMap
import Derived.Test.YtjclbgeclopheaaHsRef
namespace Go.Proofs.Ytjclbgeclopheaa.lawTxnShort
open Go.ChangeShapes Go.WideShapes Go.ChangeAt Go.RowKit Go.Deep Go.ChangeMaps
set_option linter.unusedVariables false
set_option linter.unusedSimpArgs false

def okv (k v : ByteArray) (wk : k.size ≤ maxLen) (wv : v.size ≤ maxLen) : Od := ⟨k, v, false, wk, wv⟩
def okd (k : ByteArray) (wk : k.size ≤ maxLen) : Od := ⟨k, ⟨#[]⟩, true, wk, by decide⟩
theorem tl_len (k : ByteArray) : k.toList.length = k.size := by rw [ByteArray.toList_eq, Array.length_toList]; rfl
theorem may_put {k v : ByteArray} (wf : k.size ≤ maxLen ∧ v.size ≤ maxLen) (h1 : 1 ≤ k.size) (h2 : k.size ≤ 8) (h3 : v.size ≤ 8) : mayE (putQ k v wf) = 0 := by
  have h : mayQ (putQ k v wf) = true := by
    have hm : mayB k.toList = true := by unfold mayB; rw [tl_len]; simp; omega
    simp [mayQ, putQ, cmsB, opsB, opB, hm, h3]
  unfold mayE; rw [h]; rfl
theorem may_del {k : ByteArray} (wf : k.size ≤ maxLen) (h1 : 1 ≤ k.size) (h2 : k.size ≤ 8) : mayE (delQ k wf) = 0 := by
  have h : mayQ (delQ k wf) = true := by
    have hm : mayB k.toList = true := by unfold mayB; rw [tl_len]; simp; omega
    simp [mayQ, delQ, cmsB, opsB, opB, hm]
    decide
  unfold mayE; rw [h]; rfl
theorem may_swap {k a b : ByteArray} (wf : k.size ≤ maxLen) (wa : a.size ≤ maxLen) (wb : b.size ≤ maxLen) (h1 : 1 ≤ k.size) (h2 : k.size ≤ 8) (h3 : a.size ≤ 8) (h4 : b.size ≤ 8) : mayE (swapQ k a b wf wa wb) = 0 := by
  have h : mayQ (swapQ k a b wf wa wb) = true := by
    have hm : mayB k.toList = true := by unfold mayB; rw [tl_len]; simp; omega
    simp [mayQ, swapQ, cmsB, cmB, opsB, opB, hm, h3, h4]
  unfold mayE; rw [h]; rfl
theorem plan_put (m : List Kv) (k v : ByteArray) (wf : k.size ≤ maxLen ∧ v.size ≤ maxLen) : holdsC m (putQ k v wf).cmps = true ∧ planL m (putQ k v wf) = [okv k v wf.1 wf.2] := by
  have h : holdsC m (putQ k v wf).cmps = true := rfl
  refine ⟨h, ?_⟩
  unfold planL; rw [h]
  simp [putQ, keepO, okv]
theorem plan_del (m : List Kv) (k : ByteArray) (wf : k.size ≤ maxLen) : holdsC m (delQ k wf).cmps = true ∧ planL m (delQ k wf) = if (getK k m).isSome then [okd k wf] else [] := by
  have h : holdsC m (delQ k wf).cmps = true := rfl
  refine ⟨h, ?_⟩
  unfold planL; rw [h]
  simp [delQ, keepO, okd, List.filter_cons]
def swapB (m : List Kv) (k a : ByteArray) : Bool := (getK k m).isSome && decide ((getZ k m).val = a)
theorem plan_swap (m : List Kv) (k a b : ByteArray) (wf : k.size ≤ maxLen) (wa : a.size ≤ maxLen) (wb : b.size ≤ maxLen) : holdsC m (swapQ k a b wf wa wb).cmps = swapB m k a ∧ planL m (swapQ k a b wf wa wb) = if swapB m k a then [okv k b wf wb] else [] := by
  have h : holdsC m (swapQ k a b wf wa wb).cmps = swapB m k a := by
    unfold swapB getZ
    show holdsC m [_] = _
    rw [holds_one]
    unfold oneC
    simp only [swapQ]
    cases getK k m <;> simp
  refine ⟨h, ?_⟩
  unfold planL; rw [h]
  cases swapB m k a <;> simp [swapQ, keepO, okv]
set_option maxRecDepth 100000 in
set_option maxHeartbeats 8000000 in
theorem walk (mv : Value) (m : List Kv) (k a b : ByteArray) (w : World) (hm : KvIn w mv m) (wk : k.size ≤ maxLen) (wa : a.size ≤ maxLen) (wb : b.size ≤ maxLen) :
    Calls Try.prog 5 #[mv, .string k, .agg #[.string a, .string b]] w fun e w' => e = .returned (.bool true) ∧ Below w.heap.size w w' := by
  have HM := Lib.hid hm
  obtain ⟨s1, c1, rfl, la1, ma1⟩ := hm.form
  unfold maxLen at ma1
  clear hm
  have HMAP : Hid (∀ X, Fr [] w X → Calls Try.prog 10 #[.slice s1 m.length c1] X fun e w' => e = .returned (.bool (mapB m)) ∧ Fr [] X w') := Lib.hid (fun X hX => rmap_any _ m X (LIn.keep0 HM.out hX))
  obtain ⟨mb, hmb⟩ : ∃ mb, mb = mapB m := ⟨_, rfl⟩
  rw [← hmb] at HMAP
  have HMBB : Hid (mb = mapB m) := Lib.hid hmb
  clear hmb
  have HBQ : Hid ((w.alloc (.cells #[.string a, .string b] 54)).heap[w.heap.size]? = some (.cells #[.string a, .string b] 54 (0, 0))) := Lib.hid (new_block _ _)
  have HF0 : Hid (Fr [] w (w.alloc (.cells #[.string a, .string b] 54))) := Lib.hid ((Fr.refl [] w).alloc _)
  go_enter Try.func5, Try.ntmps5
  go_wp2_with fail
  generalize w.alloc (.cells #[.string a, .string b] 54) = w0 at *
  go_wp2_with (go_at_call 8; refine (tx_awake _).mono ?_; rintro e w1 ⟨rfl, h1⟩; refine go_stop ?_)
  unfold Stop
  have HF1 := Lib.hid (HF0.out.trans h1 (by simp))
  have HB1 := Lib.hid (h1.keep HBQ.out (by simp))
  clear h1 HBQ
  by_cases h60 : m.length ≤ 60
  · have t1 : decide ((60 : Int) < (m.length : Int)) = false := by simp; omega
    go_wp2_with (go_at_call 10; refine (HMAP.out _ HF1.out).mono ?_; rintro e w3 ⟨rfl, h3⟩; refine go_stop ?_)
    unfold Stop
    have HF3 := Lib.hid (HF1.out.trans h3 (by simp))
    have HB3 := Lib.hid (h3.keep HB1.out (by simp))
    clear h3 HB1
    cases mb
    · go_wp2
      go_ret
      exact ⟨rfl, HF3.out.below (Nat.le_refl _) (by simp)⟩
    · obtain ⟨p0, p1, _⟩ := cells2 HB3.out
      by_cases hk1 : k.size < 1
      · have t2 : decide ((k.size : Int) < 1) = true := by simp; omega
        go_wp2
        go_ret
        exact ⟨rfl, HF3.out.below (Nat.le_refl _) (by simp)⟩
      · have t2 : decide ((k.size : Int) < 1) = false := by simp; omega
        by_cases hk8 : k.size ≤ 8
        · have t3 : decide ((8 : Int) < (k.size : Int)) = false := by simp; omega
          by_cases ha8 : a.size ≤ 8
          · have t4 : decide ((8 : Int) < (a.size : Int)) = false := by simp; omega
            by_cases hb8 : b.size ≤ 8
            · have t5 : decide ((8 : Int) < (b.size : Int)) = false := by simp; omega
              have HPUT : Hid (∀ X, Calls Try.prog 20 #[.string k, .string a] X fun e w' => ∃ s4 c4 s5 c5 s6 c6, e = .returned (.agg #[.int .i64 1, .string ⟨#[]⟩, .string ⟨#[]⟩, .int .i64 0, .slice s4 0 c4, .slice s5 1 c5, .slice s6 0 c6]) ∧ RqIn w' (putQ k a ⟨wk, wa⟩) (.slice s4 0 c4) (.slice s5 1 c5) (.slice s6 0 c6) ∧ Fr [] X w') := Lib.hid (fun X => by
                refine (txn_put k a ⟨wk, wa⟩ X).mono ?_
                rintro e w' ⟨cv, tv, ev, rfl, h1, h2⟩
                obtain ⟨s4, c4, rfl, _, _⟩ := LIn.form h1.c
                obtain ⟨s5, c5, rfl, _, _⟩ := LIn.form h1.t
                obtain ⟨s6, c6, rfl, _, _⟩ := LIn.form h1.e
                exact ⟨s4, c4, s5, c5, s6, c6, rfl, h1, h2⟩)
              have HDEL : Hid (∀ X, Calls Try.prog 21 #[.string k] X fun e w' => ∃ s4 c4 s5 c5 s6 c6, e = .returned (.agg #[.int .i64 1, .string ⟨#[]⟩, .string ⟨#[]⟩, .int .i64 0, .slice s4 0 c4, .slice s5 1 c5, .slice s6 0 c6]) ∧ RqIn w' (delQ k wk) (.slice s4 0 c4) (.slice s5 1 c5) (.slice s6 0 c6) ∧ Fr [] X w') := Lib.hid (fun X => by
                refine (txn_del k wk X).mono ?_
                rintro e w' ⟨cv, tv, ev, rfl, h1, h2⟩
                obtain ⟨s4, c4, rfl, _, _⟩ := LIn.form h1.c
                obtain ⟨s5, c5, rfl, _, _⟩ := LIn.form h1.t
                obtain ⟨s6, c6, rfl, _, _⟩ := LIn.form h1.e
                exact ⟨s4, c4, s5, c5, s6, c6, rfl, h1, h2⟩)
              have HSWP : Hid (∀ X, Calls Try.prog 22 #[.string k, .string a, .string b] X fun e w' => ∃ s4 c4 s5 c5 s6 c6, e = .returned (.agg #[.int .i64 1, .string ⟨#[]⟩, .string ⟨#[]⟩, .int .i64 0, .slice s4 1 c4, .slice s5 1 c5, .slice s6 0 c6]) ∧ RqIn w' (swapQ k a b wk wa wb) (.slice s4 1 c4) (.slice s5 1 c5) (.slice s6 0 c6) ∧ Fr [] X w') := Lib.hid (fun X => by
                refine (txn_swap k a b wk wa wb X).mono ?_
                rintro e w' ⟨cv, tv, ev, rfl, h1, h2⟩
                obtain ⟨s4, c4, rfl, _, _⟩ := LIn.form h1.c
                obtain ⟨s5, c5, rfl, _, _⟩ := LIn.form h1.t
                obtain ⟨s6, c6, rfl, _, _⟩ := LIn.form h1.e
                exact ⟨s4, c4, s5, c5, s6, c6, rfl, h1, h2⟩)
              have HPL : Hid (∀ X (r : Rq) u v x, Fr [] w X → RqIn X r u v x → r.cmps.length ≤ 1 → r.thn.length ≤ 1 → r.els.length ≤ 1 → Calls Try.prog 13 #[.slice s1 m.length c1, .agg #[.int .i64 r.kind, .string r.f, .string r.t, .int .i64 r.rev, u, v, x]] X fun e w' => ∃ v', e = .returned (.tuple #[.bool (holdsC m r.cmps), v']) ∧ OdIn w' v' (planL m r) ∧ Fr [] X w') := Lib.hid (fun X r u v x hX hr l1 l2 l3 => by
                refine (txn_plan _ m r u v x X (LIn.keep0 HM.out hX) (mapB_srt.1 HMBB.out.symm) hr (by unfold many; omega) (by unfold many; omega) (by unfold many; omega) (by unfold many; omega)).mono ?_
                rintro e w' ⟨v', rfl, h1, _, h3⟩
                exact ⟨v', rfl, h1, h3⟩)
              have HMP := Lib.hid (may_put ⟨wk, wa⟩ (by omega) hk8 ha8)
              have HMD := Lib.hid (may_del wk (by omega) hk8)
              have HMS := Lib.hid (may_swap wk wa wb (by omega) hk8 ha8 hb8)
              have HPP := Lib.hid (plan_put m k a ⟨wk, wa⟩)
              have HPD := Lib.hid (plan_del m k wk)
              have HPS := Lib.hid (plan_swap m k a b wk wa wb)
              have HG := Lib.hid (fun X (hX : Fr [] w X) => rget_any _ m k X (LIn.keep0 HM.out hX) (by unfold many; omega))
              obtain ⟨sb, hsb⟩ : ∃ sb, sb = swapB m k a := ⟨_, rfl⟩
              have hsb2 : sb = ((getK k m).isSome && decide ((getZ k m).val = a)) := hsb
              rw [← hsb] at HPS
              obtain ⟨z, hz⟩ : ∃ z, z = getZ k m := ⟨_, rfl⟩
              obtain ⟨bk, hbk⟩ : ∃ bk, bk = (getK k m).isSome := ⟨_, rfl⟩
              rw [← hz, ← hbk] at HG hsb2
              rw [← hbk] at HPD
              have HSB := Lib.hid hsb2
              clear hsb hsb2 hz hbk hk1 hk8 ha8 hb8
              go_wp2_with (go_at_call 12; refine (HG.out _ HF3.out).mono ?_; rintro e w4 ⟨rfl, h4⟩; refine go_stop ?_)
              unfold Stop
              have hal : Fr [] w3 (w4.alloc (.cells #[.string z.key, .string z.val, .int .i64 z.rev] 35)) := h4.trans ((Fr.refl [] w4).alloc _) (by simp)
              have HZ : Hid ((w4.alloc (.cells #[.string z.key, .string z.val, .int .i64 z.rev] 35)).heap[w4.heap.size]? = some (.cells #[.string z.key, .string z.val, .int .i64 z.rev] 35 (0, 0))) := Lib.hid (new_block _ _)
              have HF5 := Lib.hid (HF3.out.trans hal (by simp))
              have HB5 := Lib.hid (hal.keep HB3.out (by simp))
              clear p0 p1
              obtain ⟨p0, p1, _⟩ := cells2 HB5.out
              have x1 : ¬ w.heap.size = w4.heap.size := by have := lt_of_block HB3.out; have := h4.size; omega
              have x2 : ¬ w4.heap.size = w.heap.size := fun e => x1 e.symm
              have x3 : w.heap.size < w4.heap.size := by have := lt_of_block HB3.out; have := h4.size; omega
              obtain ⟨y0, y1, _⟩ := cells2 (h4.keep HB3.out (by simp))
              clear h4 hal HF3 HB3
              go_wp2_with (go_at_call 20; refine go_stop ?_)
              unfold Stop
              clear x1 x2 x3 y0 y1
              generalize w4.alloc (.cells #[.string z.key, .string z.val, .int .i64 z.rev] 35) = w5 at *
              generalize w4.heap.size = bz at *
              refine (HPUT.out _).mono ?_
              rintro e w6 ⟨s4, c4, s5, c5, s6, c6, rfl, hq, hf⟩
              replace HF5 := Lib.hid (HF5.out.trans hf (by simp))
              replace HB5 := Lib.hid (hf.keep HB5.out (by simp))
              replace HZ := Lib.hid (hf.keep HZ.out (by simp))
              clear p0 p1
              obtain ⟨p0, p1, _⟩ := cells2 HB5.out
              have HQ := Lib.hid hq
              clear hq hf
              go_wp2_with (go_at_call 13; refine go_stop ?_)
              unfold Stop
              refine (HPL.out _ (putQ k a ⟨wk, wa⟩) _ _ _ HF5.out HQ.out (by simp [putQ]) (by simp [putQ]) (by simp [putQ])).mono ?_
              rintro e w7 ⟨v7, rfl, ho, hf⟩
              rw [HPP.out.1]
              rw [HPP.out.2] at ho
              replace HF5 := Lib.hid (HF5.out.trans hf (by simp))
              replace HB5 := Lib.hid (hf.keep HB5.out (by simp))
              replace HZ := Lib.hid (hf.keep HZ.out (by simp))
              clear p0 p1
              obtain ⟨p0, p1, _⟩ := cells2 HB5.out
              have HO1 := Lib.hid ho
              obtain ⟨s7, c7, rfl, _, _⟩ := LIn.form ho
              clear ho hf HQ
              go_wp2_with (go_at_call 21; refine go_stop ?_)
              unfold Stop
              refine (HDEL.out _).mono ?_
              rintro e wn ⟨s4, c4, s5, c5, s6, c6, rfl, hq, hf⟩
              replace HF5 := Lib.hid (HF5.out.trans hf (by simp))
              replace HB5 := Lib.hid (hf.keep HB5.out (by simp))
              replace HZ := Lib.hid (hf.keep HZ.out (by simp))
              replace HO1 := Lib.hid (LIn.keep0 HO1.out hf)
              clear p0 p1
              obtain ⟨p0, p1, _⟩ := cells2 HB5.out
              have HQ := Lib.hid hq
              clear hq hf
              go_wp2_with (go_at_call 13; refine go_stop ?_)
              unfold Stop
              refine (HPL.out _ (delQ k wk) _ _ _ HF5.out HQ.out (by simp [delQ]) (by simp [delQ]) (by simp [delQ])).mono ?_
              rintro e wn ⟨vn, rfl, ho, hf⟩
              rw [HPD.out.1]
              obtain ⟨LD, hLD⟩ : ∃ LD, LD = planL m (delQ k wk) := ⟨_, rfl⟩
              rw [← hLD] at ho
              rw [HPD.out.2] at hLD
              replace HF5 := Lib.hid (HF5.out.trans hf (by simp))
              replace HB5 := Lib.hid (hf.keep HB5.out (by simp))
              replace HZ := Lib.hid (hf.keep HZ.out (by simp))
              replace HO1 := Lib.hid (LIn.keep0 HO1.out hf)
              clear p0 p1
              obtain ⟨p0, p1, _⟩ := cells2 HB5.out
              have HO2 := Lib.hid ho
              have ZLD := Lib.hid hLD
              obtain ⟨sn, cn, rfl, _, _⟩ := LIn.form ho
              clear ho hf HQ hLD
              go_wp2_with (go_at_call 22; refine go_stop ?_)
              unfold Stop
              refine (HSWP.out _).mono ?_
              rintro e wn ⟨s4, c4, s5, c5, s6, c6, rfl, hq, hf⟩
              replace HF5 := Lib.hid (HF5.out.trans hf (by simp))
              replace HB5 := Lib.hid (hf.keep HB5.out (by simp))
              replace HZ := Lib.hid (hf.keep HZ.out (by simp))
              replace HO1 := Lib.hid (LIn.keep0 HO1.out hf)
              replace HO2 := Lib.hid (LIn.keep0 HO2.out hf)
              clear p0 p1
              obtain ⟨p0, p1, _⟩ := cells2 HB5.out
              have HQ := Lib.hid hq
              clear hq hf
              go_wp2_with (go_at_call 13; refine go_stop ?_)
              unfold Stop
              refine (HPL.out _ (swapQ k a b wk wa wb) _ _ _ HF5.out HQ.out (by simp [swapQ]) (by simp [swapQ]) (by simp [swapQ])).mono ?_
              rintro e wn ⟨vn, rfl, ho, hf⟩
              rw [HPS.out.1]
              obtain ⟨LS, hLS⟩ : ∃ LS, LS = planL m (swapQ k a b wk wa wb) := ⟨_, rfl⟩
              rw [← hLS] at ho
              rw [HPS.out.2] at hLS
              replace HF5 := Lib.hid (HF5.out.trans hf (by simp))
              replace HB5 := Lib.hid (hf.keep HB5.out (by simp))
              replace HZ := Lib.hid (hf.keep HZ.out (by simp))
              replace HO1 := Lib.hid (LIn.keep0 HO1.out hf)
              replace HO2 := Lib.hid (LIn.keep0 HO2.out hf)
              clear p0 p1
              obtain ⟨p0, p1, _⟩ := cells2 HB5.out
              have HO3 := Lib.hid ho
              have ZLS := Lib.hid hLS
              obtain ⟨sn, cn, rfl, _, _⟩ := LIn.form ho
              clear ho hf HQ hLS
              have HMAY : Hid (∀ (X : World) (r : Rq) (u v x : Value), RqIn X r u v x → mayE r = 0 → Calls Try.prog 15 #[.agg #[.int .i64 r.kind, .string r.f, .string r.t, .int .i64 r.rev, u, v, x]] X fun e w' => e = .returned (.int .i64 0) ∧ Fr [] X w') := Lib.hid (fun X r u v x h1 h2 => by have := txn_may r u v x X h1; rw [h2] at this; exact this)
              go_wp2_with (go_at_call 20; refine go_stop ?_)
              unfold Stop
              refine (HPUT.out _).mono ?_
              rintro e wn ⟨s4, c4, s5, c5, s6, c6, rfl, hq, hf⟩
              replace HF5 := Lib.hid (HF5.out.trans hf (by simp))
              replace HB5 := Lib.hid (hf.keep HB5.out (by simp))
              replace HZ := Lib.hid (hf.keep HZ.out (by simp))
              replace HO1 := Lib.hid (LIn.keep0 HO1.out hf)
              replace HO2 := Lib.hid (LIn.keep0 HO2.out hf)
              replace HO3 := Lib.hid (LIn.keep0 HO3.out hf)
              clear p0 p1
              obtain ⟨p0, p1, _⟩ := cells2 HB5.out
              have HQ := Lib.hid hq
              clear hq hf
              go_wp2_with (go_at_call 15; refine go_stop ?_)
              unfold Stop
              refine (HMAY.out _ _ _ _ _ HQ.out HMP.out).mono ?_
              rintro e wn ⟨rfl, hf⟩
              replace HF5 := Lib.hid (HF5.out.trans hf (by simp))
              replace HB5 := Lib.hid (hf.keep HB5.out (by simp))
              replace HZ := Lib.hid (hf.keep HZ.out (by simp))
              replace HO1 := Lib.hid (LIn.keep0 HO1.out hf)
              replace HO2 := Lib.hid (LIn.keep0 HO2.out hf)
              replace HO3 := Lib.hid (LIn.keep0 HO3.out hf)
              clear p0 p1
              obtain ⟨p0, p1, _⟩ := cells2 HB5.out
              clear hf HQ
              go_wp2_with (go_at_call 21; refine go_stop ?_)
              unfold Stop
              refine (HDEL.out _).mono ?_
              rintro e wn ⟨s4, c4, s5, c5, s6, c6, rfl, hq, hf⟩
              replace HF5 := Lib.hid (HF5.out.trans hf (by simp))
              replace HB5 := Lib.hid (hf.keep HB5.out (by simp))
              replace HZ := Lib.hid (hf.keep HZ.out (by simp))
              replace HO1 := Lib.hid (LIn.keep0 HO1.out hf)
              replace HO2 := Lib.hid (LIn.keep0 HO2.out hf)
              replace HO3 := Lib.hid (LIn.keep0 HO3.out hf)
              clear p0 p1
              obtain ⟨p0, p1, _⟩ := cells2 HB5.out
              have HQ := Lib.hid hq
              clear hq hf
              go_wp2_with (go_at_call 15; refine go_stop ?_)
              unfold Stop
              refine (HMAY.out _ _ _ _ _ HQ.out HMD.out).mono ?_
              rintro e wn ⟨rfl, hf⟩
              replace HF5 := Lib.hid (HF5.out.trans hf (by simp))
              replace HB5 := Lib.hid (hf.keep HB5.out (by simp))
              replace HZ := Lib.hid (hf.keep HZ.out (by simp))
              replace HO1 := Lib.hid (LIn.keep0 HO1.out hf)
              replace HO2 := Lib.hid (LIn.keep0 HO2.out hf)
              replace HO3 := Lib.hid (LIn.keep0 HO3.out hf)
              clear p0 p1
              obtain ⟨p0, p1, _⟩ := cells2 HB5.out
              clear hf HQ
              go_wp2_with (go_at_call 22; refine go_stop ?_)
              unfold Stop
              refine (HSWP.out _).mono ?_
              rintro e wn ⟨s4, c4, s5, c5, s6, c6, rfl, hq, hf⟩
              replace HF5 := Lib.hid (HF5.out.trans hf (by simp))
              replace HB5 := Lib.hid (hf.keep HB5.out (by simp))
              replace HZ := Lib.hid (hf.keep HZ.out (by simp))
              replace HO1 := Lib.hid (LIn.keep0 HO1.out hf)
              replace HO2 := Lib.hid (LIn.keep0 HO2.out hf)
              replace HO3 := Lib.hid (LIn.keep0 HO3.out hf)
              clear p0 p1
              obtain ⟨p0, p1, _⟩ := cells2 HB5.out
              have HQ := Lib.hid hq
              clear hq hf
              go_wp2_with (go_at_call 15; refine go_stop ?_)
              unfold Stop
              refine (HMAY.out _ _ _ _ _ HQ.out HMS.out).mono ?_
              rintro e wn ⟨rfl, hf⟩
              replace HF5 := Lib.hid (HF5.out.trans hf (by simp))
              replace HB5 := Lib.hid (hf.keep HB5.out (by simp))
              replace HZ := Lib.hid (hf.keep HZ.out (by simp))
              replace HO1 := Lib.hid (LIn.keep0 HO1.out hf)
              replace HO2 := Lib.hid (LIn.keep0 HO2.out hf)
              replace HO3 := Lib.hid (LIn.keep0 HO3.out hf)
              clear p0 p1
              obtain ⟨p0, p1, _⟩ := cells2 HB5.out
              clear hf HQ
              go_wp2_with (go_at_call 14; refine go_stop ?_)
              unfold Stop
              refine (rops_any _ _ [okv k a wk wa] [okv k a wk wa] _ (LIn.keep0 HO1.out ((Fr.refl [] wn).alloc _)) (od_lit0 wn [okv k a wk wa] 1 rfl (by decide) _ rfl)).mono ?_
              rintro e w9 ⟨rfl, h9⟩
              rw [(sameB_eq odB_eq).2 rfl]
              have hf : Fr [] wn w9 := ((Fr.refl [] wn).alloc _).trans h9 (by simp)
              replace HF5 := Lib.hid (HF5.out.trans hf (by simp))
              replace HB5 := Lib.hid (hf.keep HB5.out (by simp))
              replace HZ := Lib.hid (hf.keep HZ.out (by simp))
              replace HO2 := Lib.hid (LIn.keep0 HO2.out hf)
              replace HO3 := Lib.hid (LIn.keep0 HO3.out hf)
              clear p0 p1 hf h9 HO1 HPUT HDEL HSWP HPL HMAY HMP HMD HMS HPP HPD HPS HMAP HG HM
              obtain ⟨p0, p1, _⟩ := cells2 HB5.out
              obtain ⟨z0, z1, z2, _⟩ := cells3 HZ.out
              have key : (bk = false ∧ sb = false ∧ LD = [] ∧ LS = []) ∨ (bk = true ∧ LD = [okd k wk] ∧ ((sb = false ∧ LS = [] ∧ (z.val.toList == a.toList) = false) ∨ (sb = true ∧ LS = [okv k b wk wb] ∧ (z.val.toList == a.toList) = true))) := by
                have h1 := HSB.out
                have h2 := ZLD.out
                have h3 := ZLS.out
                have hz : (z.val.toList == a.toList) = decide (z.val = a) := by
                  by_cases h0 : z.val = a
                  · simp [h0]
                  · rw [decide_eq_false h0, beq_eq_false_iff_ne]; exact fun e => h0 (bs_inj e)
                cases bk
                · simp at h1 h2
                  subst h1
                  exact Or.inl ⟨rfl, rfl, h2, by simpa using h3⟩
                · simp only [Bool.true_and] at h1
                  refine Or.inr ⟨rfl, by simpa using h2, ?_⟩
                  rw [← h1] at hz
                  cases sb
                  · exact Or.inl ⟨rfl, by simpa using h3, hz⟩
                  · exact Or.inr ⟨rfl, by simpa using h3, hz⟩
              clear HSB ZLD ZLS
              rcases key with ⟨rfl, rfl, rfl, rfl⟩ | ⟨rfl, rfl, hsb⟩
              · go_wp2_with fail
                go_quiet (fail)
                go_wp2
                go_ret
                exact ⟨rfl, (HF5.out.drewN _).below (Nat.le_refl _) (by simp)⟩
              · obtain ⟨g2, o2, d2, e2, _, _, k2⟩ := OdIn.here HO2.out (by simp)
                simp only [Value.slice.injEq] at e2
                obtain ⟨rfl, _, rfl⟩ := e2
                obtain ⟨r0, r1, r2⟩ := k2 0 (okd k wk) rfl
                simp only [Nat.zero_mul, Nat.add_zero, okd] at r0 r1 r2
                clear k2
                have hkk : (k.toList == k.toList) = true := by simp
                rcases hsb with ⟨rfl, rfl, hzz⟩ | ⟨rfl, rfl, hzz⟩
                · go_wp2_with fail
                  go_quiet (fail)
                  go_wp2
                  go_ret
                  exact ⟨rfl, (HF5.out.drewN _).below (Nat.le_refl _) (by simp)⟩
                · obtain ⟨g3, o3, d3, e3, _, _, k3⟩ := OdIn.here HO3.out (by simp)
                  simp only [Value.slice.injEq] at e3
                  obtain ⟨rfl, _, rfl⟩ := e3
                  obtain ⟨v0, v1, v2⟩ := k3 0 (okv k b wk wb) rfl
                  simp only [Nat.zero_mul, Nat.add_zero, okv] at v0 v1 v2
                  clear k3
                  have hbb : (b.toList == b.toList) = true := by simp
                  go_wp2_with fail
                  go_quiet (fail)
                  go_wp2
                  go_ret
                  exact ⟨rfl, (HF5.out.drewN _).below (Nat.le_refl _) (by simp)⟩
            · have t5 : decide ((8 : Int) < (b.size : Int)) = true := by simp; omega
              go_wp2
              go_ret
              exact ⟨rfl, HF3.out.below (Nat.le_refl _) (by simp)⟩
          · have t4 : decide ((8 : Int) < (a.size : Int)) = true := by simp; omega
            go_wp2
            go_ret
            exact ⟨rfl, HF3.out.below (Nat.le_refl _) (by simp)⟩
        · have t3 : decide ((8 : Int) < (k.size : Int)) = true := by simp; omega
          go_wp2
          go_ret
          exact ⟨rfl, HF3.out.below (Nat.le_refl _) (by simp)⟩
  · have t1 : decide ((60 : Int) < (m.length : Int)) = true := by simp; omega
    go_wp2
    go_ret
    exact ⟨rfl, HF1.out.below (Nat.le_refl _) (by simp)⟩

set_option maxRecDepth 100000 in
theorem contract (H : Type) (enc : TypeId × Value → H) (W : World) (base : Nat) (args : Array Value) (ds gs : List (DataW H)) (before : List MemPlace)
    (hval0 : ∀ (j : Nat) t v, Try.f5.params[j]? = some t → args[j]? = some v → Value.okWide Try.prog W .any base t v)
    (hW : DataW.Whole enc Try.prog Try.f5.params.toList Rows.txnShortSpec.vars false W args.toList ds gs before) :
    Calls Try.prog 5 args W fun e W' => ∃ v, e = .returned v ∧ Rows.txnShortSpec.post enc Try.prog Try.f5 false true false false W args v W' := by
  have hval : ∀ (j : Nat) t v, Try.f5.params[j]? = some t → args[j]? = some v → Value.okWide Try.prog W .any base t v := hval0
  have hW' := hW
  obtain ⟨p, q, hA0, hV, rfl, hfz, hnd⟩ := hW
  have hA : DataW.TrodAll enc Try.prog W 0 (fun _ => true) true Try.f5.params.toList args.toList ds p := hA0
  rw [Try.params5] at hA hval
  obtain ⟨v0, vs0, d0, ds0, p0, q0, hargs, rfl, rfl, h0, r0⟩ := trodAll_cons hA
  obtain ⟨v1, vs1, d1, ds1, p1, q1, rfl, rfl, rfl, h1, r1⟩ := trodAll_cons r0
  obtain ⟨v2, vs2, d2, ds2, p2, q2, rfl, rfl, rfl, h2, r2⟩ := trodAll_cons r1
  obtain ⟨rfl, rfl, rfl⟩ := trodAll_nil r2
  obtain rfl : args = #[v0, v1, v2] := by cases args; simp_all
  obtain ⟨rfl, rfl⟩ := trodVars_none hV
  have k0 := h0
  have lt0 : ∀ x ∈ p0, x.block < W.heap.size := by obtain ⟨m, hm⟩ := k0; exact DataW.trod_lt m _ _ _ hm
  have k1 := h1
  have lt1 : ∀ x ∈ p1, x.block < W.heap.size := by obtain ⟨m, hm⟩ := k1; exact DataW.trod_lt m _ _ _ hm
  have k2 := h2
  have lt2 : ∀ x ∈ p2, x.block < W.heap.size := by obtain ⟨m, hm⟩ := k2; exact DataW.trod_lt m _ _ _ hm
  obtain ⟨m, hm⟩ := open_kvs (hval 0 22 v0 rfl rfl) h0
  obtain ⟨k, rfl, rfl, _, wk⟩ := open_string Try.underlying9 (hval 1 9 v1 rfl rfl) h1
  obtain ⟨a, b, rfl, wa, wb⟩ := open_two (hval 2 54 v2 rfl rfl) h2
  clear hA0 hval0 hval
  refine (walk v0 m k a b W hm wk wa wb).mono fun e W' ⟨he, bel⟩ => ?_
  subst he
  exact ⟨_, rfl, _, _, _, [], _, [], hW', trodAll_mk1 (shut_bool Try.underlying4 _), (trodAll_cons_mk (Below.trod laid_prog (by kernel_rfl) (of_decide_eq_true (by kernel_rfl)) k0 bel lt0) (trodAll_cons_mk (Below.trod laid_prog (by kernel_rfl) (of_decide_eq_true (by kernel_rfl)) k1 bel lt1) (trodAll_cons_mk (Below.trod laid_prog (by kernel_rfl) (of_decide_eq_true (by kernel_rfl)) k2 bel lt2) trodAll_mk0))), rfl, bel.frame _, fun h => by cases h⟩

set_option maxRecDepth 100000 in
theorem lifted (os : Os) (started : os.Started) (H : Type) (enc : TypeId × Value → H) :
    ReturnsInHanded {} Try.checked os 5 .any (Rows.txnShortSpec.pre6 enc Try.prog Try.f5 Rows.txnShortRow.domain false) (Rows.txnShortSpec.post enc Try.prog Try.f5 false true false false) := by
  refine returnsInHanded_of_change (C := Try.checked) own_prog started (by kernel_rfl) Try.func5
    (ChangeSpec.witness6 (enc := enc) (C := Try.checked) false ⟨#[], #[.slice none 0 0, .string ⟨#[]⟩, .agg #[.string ⟨#[]⟩, .string ⟨#[]⟩]], []⟩ 8 (by kernel_rfl) (by kernel_rfl) (by kernel_rfl) (by kernel_rfl)) ?_
  intro W base args ds gs before hval hW _ _
  exact contract H enc W base args ds gs before hval hW

theorem proved : Rows.TxnShortSaid :=
  OpenClaim.holds_of_wide 5 Try.f5 rfl rfl rfl rfl rfl rfl rfl ⟨rfl, rfl, rfl, rfl, rfl⟩ rfl rfl rfl rfl rfl (by kernel_rfl) Try.func5 (by kernel_rfl)
    (of_decide_eq_true (by kernel_rfl)) (by unfold Func.isWrapper; first | (rw [if_pos (by decide +kernel)]; kernel_rfl) | (rw [if_neg (by decide +kernel)]; exact ⟨rfl, rfl⟩))
    (fun os started H enc _ => lifted os started H enc)

end Go.Proofs.Ytjclbgeclopheaa.lawTxnShort
