/- PACKAGE txn: mayTxn, may: contracts -/
import Derived.Test.YtjclbgeclopheaaTxKeys
import Derived.Test.YtjclbgeclopheaaKeyA
namespace Go.Proofs.Ytjclbgeclopheaa
open Go.RowKit
set_option linter.unusedVariables false
set_option linter.unusedSimpArgs false

def mayTB (q : Rq) : Bool := cmsB q.cmps && opsB q.thn && opsB q.els
def keysB (l : List ByteArray) : Bool := l.all (fun k => mayB k.toList)
theorem keysB_ext {a b : List ByteArray} (h : ∀ k, k ∈ a ↔ k ∈ b) : keysB a = keysB b := by
  unfold keysB
  rw [Bool.eq_iff_iff, List.all_eq_true, List.all_eq_true]
  exact ⟨fun g k hk => g k ((h k).2 hk), fun g k hk => g k ((h k).1 hk)⟩
theorem cmsB_eq (l : List Cm) : cmsB l = (keysB (l.map Cm.key) && l.all cm1 && decide (l.length ≤ 4)) := by
  unfold cmsB keysB
  congr 1
  rw [Bool.eq_iff_iff, Bool.and_eq_true, List.all_eq_true, List.all_eq_true, List.all_eq_true]
  constructor
  · intro h
    refine ⟨fun k hk => ?_, fun c hc => ?_⟩
    · obtain ⟨c, hc, rfl⟩ := List.mem_map.1 hk
      have := h c hc
      simp only [cmB, Bool.and_eq_true] at this
      exact this.1.1.1
    · have := h c hc
      simp only [cmB, Bool.and_eq_true] at this
      simp only [cm1, Bool.and_eq_true]
      exact ⟨⟨this.1.1.2, this.1.2⟩, this.2⟩
  · rintro ⟨h1, h2⟩ c hc
    have a := h1 _ (List.mem_map.2 ⟨c, hc, rfl⟩)
    have b := h2 c hc
    simp only [cm1, Bool.and_eq_true] at b
    simp only [cmB, Bool.and_eq_true]
    exact ⟨⟨⟨a, b.1.1⟩, b.1.2⟩, b.2⟩
theorem opsB_eq (l : List Od) : opsB l = (keysB (l.map Od.key) && (l.all od1 && decide ((l.map Od.key).Nodup)) && decide (l.length ≤ 4)) := by
  unfold opsB keysB
  congr 1
  rw [← Bool.and_assoc]
  congr 1
  rw [Bool.eq_iff_iff, Bool.and_eq_true, List.all_eq_true, List.all_eq_true, List.all_eq_true]
  constructor
  · intro h
    refine ⟨fun k hk => ?_, fun c hc => ?_⟩
    · obtain ⟨c, hc, rfl⟩ := List.mem_map.1 hk
      have := h c hc
      simp only [opB, Bool.and_eq_true] at this
      exact this.1.1
    · have := h c hc
      simp only [opB, Bool.and_eq_true] at this
      simp only [od1, Bool.and_eq_true]
      exact ⟨this.1.2, this.2⟩
  · rintro ⟨h1, h2⟩ c hc
    have a := h1 _ (List.mem_map.2 ⟨c, hc, rfl⟩)
    have b := h2 c hc
    simp only [od1, Bool.and_eq_true] at b
    simp only [opB, Bool.and_eq_true]
    exact ⟨⟨a, b.1⟩, b.2⟩
def fourB (q : Rq) : Bool := decide (q.cmps.length ≤ 4) && decide (q.thn.length ≤ 4) && decide (q.els.length ≤ 4)
theorem mayTB_eq (q : Rq) : mayTB q = (fourB q && keysB (keysL q) && (q.cmps.all cm1 && (q.thn.all od1 && decide ((q.thn.map Od.key).Nodup)) && (q.els.all od1 && decide ((q.els.map Od.key).Nodup)))) := by
  unfold mayTB
  rw [cmsB_eq, opsB_eq, opsB_eq]
  unfold keysL keysB fourB
  rw [List.all_append, List.all_append]
  generalize (q.cmps.map Cm.key).all _ = a1
  generalize (q.thn.map Od.key).all _ = a2
  generalize (q.els.map Od.key).all _ = a3
  generalize q.cmps.all cm1 = b1
  generalize (q.thn.all od1 && decide ((q.thn.map Od.key).Nodup)) = b2
  generalize (q.els.all od1 && decide ((q.els.map Od.key).Nodup)) = b3
  generalize decide (q.cmps.length ≤ 4) = c1
  generalize decide (q.thn.length ≤ 4) = c2
  generalize decide (q.els.length ≤ 4) = c3
  revert a1 a2 a3 b1 b2 b3 c1 c2 c3
  decide
theorem keysL_wf {q : Rq} {k : ByteArray} (h : k ∈ keysL q) : k.size ≤ maxLen := by
  unfold keysL at h
  simp only [List.mem_append, List.mem_map] at h
  rcases h with (⟨c, _, rfl⟩ | ⟨c, _, rfl⟩) | ⟨c, _, rfl⟩
  · exact c.wf.1
  · exact c.wf.1
  · exact c.wf.1
theorem kall_take {p : ByteArray → Bool} {l : List ByteArray} {j : Nat} {x : ByteArray} (hx : l[j]? = some x) : (l.take (j + 1)).all p = ((l.take j).all p && p x) := by
  rw [List.take_add_one, hx, List.all_append]; simp
theorem kall_no {p : ByteArray → Bool} {l : List ByteArray} {j : Nat} {x : ByteArray} (hx : l[j]? = some x) (h : p x = false) : l.all p = false := by
  rw [List.all_eq_false]
  exact ⟨x, List.mem_of_getElem? hx, by simp [h]⟩
theorem run_max3 {P : Program} (a b c : Nat) : ∃ m : Nat, (∀ ts ty W, (Builtin.max_ ts ty #[.int .i64 a, .int .i64 b, .int .i64 c]).run P W = .ok (.int .i64 m) W) ∧ (m ≤ 4 ↔ (a ≤ 4 ∧ b ≤ 4 ∧ c ≤ 4)) := by
  refine ⟨max (max a b) c, fun ts ty W => ?_, by omega⟩
  simp only [Builtin.max_, List.foldlM, Builtin.max2]
  simp
  split <;> split <;> omega
set_option maxHeartbeats 2000000 in
theorem tx_mayTxn (q : Rq) (cv tv ev : Value) (w : World) (h : RqIn w q cv tv ev) : Calls Try.prog 45 #[.agg #[.int .i64 q.kind, .string q.f, .string q.t, .int .i64 q.rev, cv, tv, ev]] w fun e w' => e = .returned (.bool (mayTB q)) ∧ Fr [] w w' := by
  obtain ⟨s1, c1, rfl, la1, ma1⟩ := LIn.form h.c
  obtain ⟨s2, c2, rfl, la2, ma2⟩ := LIn.form h.t
  obtain ⟨s3, c3, rfl, la3, ma3⟩ := LIn.form h.e
  unfold maxLen at ma1 ma2 ma3
  obtain ⟨wb, hwb⟩ : ∃ wb, wb = w.alloc (rqB q (.slice s1 q.cmps.length c1) (.slice s2 q.thn.length c2) (.slice s3 q.els.length c3)) := ⟨_, rfl⟩
  have HWB : Hid (wb = w.alloc (.cells #[.int .i64 q.kind, .string q.f, .string q.t, .int .i64 q.rev, .slice s1 q.cmps.length c1, .slice s2 q.thn.length c2, .slice s3 q.els.length c3] 28)) := Lib.hid hwb
  have HF : Hid (Fr [] w wb) := Lib.hid (by rw [hwb]; exact (Fr.refl [] w).alloc _)
  have HR := Lib.hid (h.keep0 HF.out)
  have HX : Hid (wb.heap[w.heap.size]? = some (.cells #[.int .i64 q.kind, .string q.f, .string q.t, .int .i64 q.rev, .slice s1 q.cmps.length c1, .slice s2 q.thn.length c2, .slice s3 q.els.length c3] 28 (0, 0))) := Lib.hid (by rw [hwb]; exact new_block w _)
  obtain ⟨d0, d1, d2, d3, d4, d5, d6, _⟩ := cells7 HX.out
  have HE := Lib.hid (mayTB_eq q)
  obtain ⟨m, hmx, hm4⟩ := run_max3 (P := Try.prog) q.cmps.length q.thn.length q.els.length
  clear hwb h
  go_enter Try.func45, Try.ntmps45
  by_cases h4 : m ≤ 4
  · have t1 : decide ((4 : Int) < (m : Int)) = false := by simp; omega
    have H4 := Lib.hid (hm4.1 h4)
    clear hm4 h4
    go_upto_region 1 with fail
    rw [← HWB.out]
    go_wp2_with (go_at_call 11; refine (txn_keysG q _ _ _ _ HR.out (by have := H4.out; omega) (by have := H4.out; omega) (by have := H4.out; omega)).mono ?_; rintro e w1 ⟨v1, ks, rfl, h1, h2, h3⟩; refine go_stop ?_)
    unfold Stop
    obtain ⟨s4, c4, rfl, la4, ma4⟩ := LIn.form h1
    have hkl : ks.length ≤ 12 := by
      have := h2.le
      have h5 := H4.out
      unfold keysL at this
      simp at this; omega
    have HKS := Lib.hid h1
    have HG := Lib.hid h2
    have HE2 : Hid (mayTB q = (keysB ks && (q.cmps.all cm1 && (q.thn.all od1 && decide ((q.thn.map Od.key).Nodup)) && (q.els.all od1 && decide ((q.els.map Od.key).Nodup))))) := Lib.hid (by
      rw [HE.out, keysB_ext h2.mem]
      have : fourB q = true := by unfold fourB; simp [H4.out]
      rw [this, Bool.true_and])
    have HF1 := Lib.hid h3
    clear h1 h2 h3 HE t1 hmx d0 d1 d2 d3 d4 d5 d6
    unfold maxLen at ma4
    go_wp2_with fail
    go_loopw [19] (fun i wr => ∃ (j : Nat), i = .int .i64 j ∧ j ≤ ks.length ∧ keysB (ks.take j) = true ∧ Fr [] w1 wr) (fun i _ => ks.length - (intOf i).toNat)
    case atStart => exact ⟨0, rfl, Nat.zero_le _, by simp [keysB], Fr.refl _ _⟩
    case round =>
      obtain ⟨j, rfl, hj, hs, hf⟩ := hrel
      have HS := Lib.hid hs
      have HFK := Lib.hid hf
      have HF2 := Lib.hid (HF1.out.trans hf (by simp))
      clear hs hf
      by_cases h : j < ks.length
      · obtain ⟨x, hx⟩ : ∃ x, ks[j]? = some x := ⟨_, List.getElem?_eq_getElem h⟩
        obtain ⟨g, off, e1, e2, _, _, k1⟩ := StIn.here (LIn.keep0 HKS.out HFK.out) (by omega)
        simp only [Value.slice.injEq] at e2
        obtain ⟨rfl, _, rfl⟩ := e2
        have p0 := k1 j x hx
        have HXX := Lib.hid hx
        have HW : Hid (x.size ≤ maxLen) := Lib.hid (keysL_wf ((HG.out.mem x).1 (List.mem_of_getElem? hx)))
        have t1 : decide (j < ks.length) = true := by simpa using h
        clear hx k1
        go_wp2_with (go_at_call 54; refine (key_may x _ HW.out).mono ?_; rintro e wn ⟨rfl, hfn⟩; refine go_stop ?_)
        unfold Stop
        have HFN := Lib.hid (HFK.out.trans hfn (by simp))
        clear hfn p0
        cases hb : mayB x.toList
        · have HN : Hid (mayTB q = false) := Lib.hid (by
            have : keysB ks = false := kall_no (p := fun k => mayB k.toList) HXX.out hb
            rw [HE2.out, this]; rfl)
          have HFE := Lib.hid (HF.out.trans (HF1.out.trans HFN.out (by simp)) (by simp))
          clear hb
          go_wp2
          go_ret
          exact ⟨by rw [HN.out]; rfl, HFE.out⟩
        · have HT : Hid (keysB (ks.take (j + 1)) = true) := Lib.hid (by
            have h1 := HS.out
            unfold keysB at h1 ⊢
            rw [kall_take HXX.out, h1, hb]; rfl)
          clear hb
          go_wp2_with fail
          go_roundw
          case rel => exact ⟨j + 1, by go_num, by omega, HT.out, HFN.out⟩
          case measure => simp [intOf]; omega
      · have t1 : decide (j < ks.length) = false := by simpa using h
        have hj2 : j = ks.length := by omega
        subst hj2
        have HE3 : Hid (mayTB q = (q.cmps.all cm1 && (q.thn.all od1 && decide ((q.thn.map Od.key).Nodup)) && (q.els.all od1 && decide ((q.els.map Od.key).Nodup)))) := Lib.hid (by
          have := HS.out; rw [List.take_length] at this
          rw [HE2.out, this, Bool.true_and])
        obtain ⟨d0, d1, d2, d3, d4, d5, d6, _⟩ := cells7 (HF2.out.keep HX.out (by simp))
        have HRQ := Lib.hid (HR.out.keep0 HF2.out)
        go_wp2_with (go_at_call 55; refine (tx_mayCmps _ q.cmps _ HRQ.out.c (by have := H4.out; unfold many; omega)).mono ?_; rintro e w2 ⟨rfl, hf2⟩; refine go_stop ?_)
        unfold Stop
        have HF3 := Lib.hid (HF2.out.trans hf2 (by simp))
        have HX3 := Lib.hid (HF3.out.keep HX.out (by simp))
        obtain ⟨d0, d1, d2, d3, d4, d5, d6, _⟩ := cells7 HX3.out
        have HRQ3 := Lib.hid (HR.out.keep0 HF3.out)
        have HZ3 := Lib.hid (HF.out.trans HF3.out (by simp))
        clear hf2
        generalize q.cmps.all cm1 = b1 at HE3 ⊢
        cases b1
        · have HN : Hid (mayTB q = false) := Lib.hid (by rw [HE3.out]; rfl)
          go_wp2
          go_ret
          exact ⟨by rw [HN.out]; rfl, HZ3.out⟩
        · go_wp2_with (go_at_call 56; refine (tx_mayOps _ q.thn _ HRQ3.out.t (by have := H4.out; unfold many; omega)).mono ?_; rintro e w3 ⟨rfl, hf2⟩; refine go_stop ?_)
          unfold Stop
          have HF4 := Lib.hid (HF3.out.trans hf2 (by simp))
          have HX4 := Lib.hid (HF4.out.keep HX.out (by simp))
          obtain ⟨d0, d1, d2, d3, d4, d5, d6, _⟩ := cells7 HX4.out
          have HRQ4 := Lib.hid (HR.out.keep0 HF4.out)
          have HZ4 := Lib.hid (HF.out.trans HF4.out (by simp))
          clear hf2
          generalize (q.thn.all od1 && decide ((q.thn.map Od.key).Nodup)) = b2 at HE3 ⊢
          cases b2
          · have HN : Hid (mayTB q = false) := Lib.hid (by rw [HE3.out]; rfl)
            go_wp2
            go_ret
            exact ⟨by rw [HN.out]; rfl, HZ4.out⟩
          · go_wp2_with (go_at_call 56; refine (tx_mayOps _ q.els _ HRQ4.out.e (by have := H4.out; unfold many; omega)).mono ?_; rintro e w4 ⟨rfl, hf2⟩; refine go_stop ?_)
            unfold Stop
            have HZ5 := Lib.hid (HZ4.out.trans hf2 (by simp))
            clear hf2
            generalize (q.els.all od1 && decide ((q.els.map Od.key).Nodup)) = b3 at HE3 ⊢
            have HN : Hid (mayTB q = b3) := Lib.hid (by rw [HE3.out]; rfl)
            cases b3
            all_goals
              go_wp2
              go_ret
              exact ⟨by rw [HN.out]; rfl, HZ5.out⟩
  · have t1 : decide ((4 : Int) < (m : Int)) = true := by simp; omega
    have HN : Hid (mayTB q = false) := Lib.hid (by
      rw [HE.out]
      have : fourB q = false := by
        unfold fourB
        rw [Bool.eq_false_iff]
        intro hc
        simp only [Bool.and_eq_true, decide_eq_true_eq] at hc
        exact h4 (hm4.2 ⟨hc.1.1, hc.1.2, hc.2⟩)
      rw [this]; rfl)
    clear hm4 h4
    go_upto_region 1 with fail
    rw [← HWB.out]
    go_wp2_with fail
    go_ret
    exact ⟨by rw [HN.out]; rfl, HF.out⟩
end Go.Proofs.Ytjclbgeclopheaa
