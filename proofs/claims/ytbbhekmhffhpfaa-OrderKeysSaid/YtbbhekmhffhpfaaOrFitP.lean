/- PACKAGE order: Fits: contract -/
import Derived.Test.YtbbhekmhffhpfaaOrLook
import Derived.Carry
import Derived.Laws.EntriesVeiled
namespace Go.Proofs.Ytbbhekmhffhpfaa
open Go.RowKit
set_option linter.unusedVariables false
set_option linter.unusedSimpArgs false

theorem badTo_iff {l : List Ca} : badTo l = false ↔ ∀ c ∈ l, ahead c c = false := by
  unfold badTo
  rw [List.any_eq_false]
  exact ⟨fun h c hc => by simpa using h c hc, fun h c hc => by simpa using h c hc⟩
theorem cost_13 : 0 + cost 13 ≤ 2 ^ 62 := of_decide_eq_true (by kernel_rfl)
theorem begin_eq {first : List ByteArray} {l : List Ca} {t : Nat} (h12 : l.length ≤ 12) (hb : badTo l = false) (h : ThereTo first l l.length t) : fitB l (tb 0) (sb l t) = fitsB first l := by
  have e : FitI l (tb 0) (sb l t) ↔ fits first l := by
    have h1 : FitI l (tb 0) (sb l t) ↔ FitI l (fun _ => false) (inS first) :=
      ⟨fun k => k.congr (fun i _ => by simp [tb]) (fun i c hc => h.2 i c (List.getElem?_eq_some_iff.1 hc).1 hc), fun k => k.congr (fun i _ => by simp [tb]) (fun i c hc => (h.2 i c (List.getElem?_eq_some_iff.1 hc).1 hc).symm)⟩
    rw [h1, fit_all]
    exact ⟨fun k => ⟨h12, badTo_iff.1 hb, k⟩, fun k => k.2.2⟩
  by_cases k : fits first l
  · rw [fitsB_true.2 k, fitB_true.2 (e.2 k)]
  · rw [fitsB_false.2 k, fitB_false.2 (fun h => k (e.1 h))]
theorem look_whole {first : List ByteArray} {l : List Ca} (h12 : l.length ≤ 12) (hb : badTo l = false) {lv kv : Value} {bl bm bk bf mb t : Nat} {w : World} (he : Env l lv kv bl bm bk bf mb w) (hp : PtSet w mb 0 (fun _ _ => false)) (ht : ThereTo first l l.length t) :
    Calls Try.prog 20 #[.agg #[.int .u64 0, .int .u64 (t : Nat)], .pointer (some ⟨bl, 0, none⟩), .pointer (some ⟨bm, 0, none⟩), .pointer (some ⟨bk, 0, none⟩), .pointer (some ⟨bf, 0, none⟩)] w fun e w' => e = .returned (.bool (fitsB first l)) ∧ Fr [mb] w w' := by
  have h := or_look l h12 lv kv bl bm bk bf mb 13 0 t 0 (fun _ _ => false) w (by have := left_le (l := l) (tb 0); omega) (by decide) ht.1 he hp cost_13 (fun _ _ _ _ h => by cases h)
  rw [begin_eq h12 hb ht] at h
  exact h.mono fun e w' h => ⟨h.1, h.2.1⟩

set_option maxRecDepth 100000 in
set_option maxHeartbeats 4000000 in
theorem or_fits (fv lv : Value) (first : List ByteArray) (l : List Ca) (w : World) (hf : SsIn w fv first) (hl : CaIn w lv l) : Calls Try.prog 13 #[fv, lv] w fun e w' => e = .returned (.bool (fitsB first l)) ∧ Fr [] w w' := by
  obtain ⟨fs, fc, rfl, fa, fb⟩ := LIn.form hf
  obtain ⟨ls, lc, rfl, la, lb⟩ := LIn.form hl
  unfold maxLen at fb lb
  have hmm := @run_makeMap Try.prog
  have hmf : ∀ (fn : Fn) (first cap : Array Value) (w : World), (Instr.makeFunc fn first cap).run Try.prog w = .ok (.func fn first cap) w := fun fn first cap w => rfl
  obtain ⟨wb, hwb⟩ : ∃ wb, wb = w.alloc (Obj.cells #[.slice ls l.length lc] 25) := ⟨_, rfl⟩
  have HWB := Lib.hid hwb
  have HBL : Hid (wb.heap[w.heap.size]? = some (.cells #[.slice ls l.length lc] 25 (0, 0))) := Lib.hid (by rw [hwb]; exact new_block w _)
  have HFB : Hid (Fr [] w wb) := Lib.hid (by rw [hwb]; exact (Fr.refl [] w).alloc _)
  have HF := Lib.hid (LIn.keep0 hf HFB.out)
  have HL := Lib.hid (LIn.keep0 hl HFB.out)
  clear hf hl hwb
  obtain ⟨R, hR⟩ : ∃ b, b = fitsB first l := ⟨_, rfl⟩
  rw [← hR]
  have HRR := Lib.hid hR
  clear hR
  by_cases h12 : l.length ≤ 12
  · have t0 : decide ((12 : Int) < (l.length : Int)) = false := by simp; omega
    obtain ⟨B, hB⟩ : ∃ b, b = badTo l := ⟨_, rfl⟩
    have HMAY : Hid (∀ W, Fr [] wb W → Calls Try.prog 17 #[.slice ls l.length lc, .func (.func 18) #[] #[]] W fun e w' => e = .returned (.bool B) ∧ Fr [] W w') := Lib.hid fun W hW => by rw [hB]; exact sl_containsMay _ l W (LIn.keep0 HL.out hW)
    have HB := Lib.hid hB
    clear hB
    go_enter Try.func13, Try.ntmps13
    go_upto_region 1 with fail
    rw [← HWB.out]
    obtain ⟨e0, _⟩ := cells1 HBL.out
    go_wp2_with (go_at_call 17; refine (HMAY.out _ (Fr.refl [] wb)).mono ?_; rintro e w1 ⟨rfl, hf⟩; refine go_stop ?_)
    unfold Stop
    have HF1 := Lib.hid hf
    have HBL1 := Lib.hid (hf.keep HBL.out (by simp))
    clear hf e0
    cases B
    · obtain ⟨e0, _⟩ := cells1 HBL1.out
      have HPL := Lib.hid (or_places _ l w1 (LIn.keep0 HL.out HF1.out) h12)
      go_wp2_with (go_at_call 19; refine HPL.out.mono ?_; rintro e w2 ⟨kv, rfl, hk, hf⟩; refine go_stop ?_)
      unfold Stop
      obtain ⟨ks, kc, rfl, ka, kb⟩ := LIn.form hk
      obtain ⟨KO, hKO⟩ : ∃ o, o = Obj.cells #[.slice ks (pls l).length kc] 42 := ⟨_, rfl⟩
      obtain ⟨SO, hSO⟩ : ∃ o, o = Obj.cells #[.map (some (w2.heap.size + 1))] 44 := ⟨_, rfl⟩
      obtain ⟨FO, hFO⟩ : ∃ o, o = Obj.cells #[lookV w.heap.size (w2.heap.size + 1 + 1) w2.heap.size (w2.heap.size + 1 + 1 + 1)] 45 := ⟨_, rfl⟩
      obtain ⟨wx, hwx⟩ : ∃ wx, wx = (((w2.alloc KO).alloc (.map #[] 0)).alloc SO).alloc FO := ⟨_, rfl⟩
      have hfx : Fr [] w2 wx := by rw [hwx]; exact ((((Fr.refl [] w2).alloc _).alloc _).alloc _).alloc _
      have s1 : (w2.alloc KO).heap.size = w2.heap.size + 1 := by simp
      have s2 : ((w2.alloc KO).alloc (.map #[] 0)).heap.size = w2.heap.size + 1 + 1 := by simp
      have s3 : (((w2.alloc KO).alloc (.map #[] 0)).alloc SO).heap.size = w2.heap.size + 1 + 1 + 1 := by simp
      have hK : wx.heap[w2.heap.size]? = some KO := by rw [hwx]; exact blk_alloc (blk_alloc (blk_alloc (new_block w2 KO) _) _) _
      have hM : PtSet wx (w2.heap.size + 1) 0 (fun _ _ => false) := by
        have h1 := PtSet.made (w2.alloc KO)
        rw [s1] at h1
        rw [hwx]
        exact (h1.keep ((Fr.refl [] _).alloc SO) (by simp)).keep ((Fr.refl [] _).alloc FO) (by simp)
      have hS : wx.heap[w2.heap.size + 1 + 1]? = some SO := by
        have h1 := new_block ((w2.alloc KO).alloc (.map #[] 0)) SO
        rw [s2] at h1
        rw [hwx]; exact blk_alloc h1 _
      have hFN : wx.heap[w2.heap.size + 1 + 1 + 1]? = some FO := by
        have h1 := new_block (((w2.alloc KO).alloc (.map #[] 0)).alloc SO) FO
        rw [s3] at h1
        rw [hwx]; exact h1
      have HW12 : Hid (Fr [] wb wx) := Lib.hid (Fr.trans (T := []) (Fr.trans (T := []) HF1.out hf (by simp)) hfx (by simp))
      have hE : Env l (.slice ls l.length lc) (.slice ks (pls l).length kc) w.heap.size (w2.heap.size + 1 + 1) w2.heap.size (w2.heap.size + 1 + 1 + 1) (w2.heap.size + 1) wx :=
        ⟨HW12.out.keep HBL.out (by simp), by rw [hS, hSO], by rw [hK, hKO], by rw [hFN, hFO], LIn.keep0 HL.out HW12.out, LIn.keep0 hk hfx, hM.isMap⟩
      have hsz : w.heap.size ≤ w2.heap.size + 1 := by have := HFB.out.size; have := HF1.out.size; have := hf.size; omega
      have HSZ := Lib.hid hsz
      have HWX : Hid (wx = (((w2.alloc (Obj.cells #[.slice ks (pls l).length kc] 42)).alloc (.map #[] 0)).alloc (Obj.cells #[.map (some (w2.heap.size + 1))] 44)).alloc (Obj.cells #[.func (.func 20) #[] #[.pointer (some ⟨w.heap.size, 0, none⟩), .pointer (some ⟨w2.heap.size + 1 + 1, 0, none⟩), .pointer (some ⟨w2.heap.size, 0, none⟩), .pointer (some ⟨w2.heap.size + 1 + 1 + 1, 0, none⟩)]] 45)) := Lib.hid (by rw [hwx, hKO, hSO, hFO]; rfl)
      have HE := Lib.hid hE
      have HM := Lib.hid hM
      have HFW : Hid (Fr [] w wx) := Lib.hid (Fr.trans (T := []) HFB.out HW12.out (by simp))
      clear hf hk hfx s1 s2 s3 hK hM hS hFN hE hsz hKO hSO hFO hwx
      go_upto_region 7 with fail
      rw [← HWX.out]
      obtain ⟨r0, _⟩ := cells1 HE.out.vk
      obtain ⟨g0, _⟩ := cells1 HE.out.vf
      obtain ⟨e0', _⟩ := cells1 HE.out.vl
      unfold lookV at g0
      have HBEG : Hid (∀ W, Fr [] wx W → Calls Try.prog 25 #[.slice fs first.length fc, .slice ls l.length lc, .slice ks (pls l).length kc] W fun e w' => ∃ t, e = .returned (.agg #[.int .u64 0, .int .u64 (t : Nat)]) ∧ ThereTo first l l.length t ∧ Fr [] W w') := Lib.hid fun W hW => or_begin _ _ _ first l W (LIn.keep0 HF.out (Fr.trans (T := []) HW12.out hW (by simp))) (LIn.keep0 HL.out (Fr.trans (T := []) HW12.out hW (by simp))) (LIn.keep0 HE.out.ck hW) h12
      have HLOOK : Hid (∀ (W : World) (t : Nat), Fr [] wx W → ThereTo first l l.length t → Calls Try.prog 20 #[.agg #[.int .u64 0, .int .u64 (t : Nat)], .pointer (some ⟨w.heap.size, 0, none⟩), .pointer (some ⟨w2.heap.size + 1 + 1, 0, none⟩), .pointer (some ⟨w2.heap.size, 0, none⟩), .pointer (some ⟨w2.heap.size + 1 + 1 + 1, 0, none⟩)] W fun e w' => e = .returned (.bool R) ∧ Fr [w2.heap.size + 1] W w') := Lib.hid fun W t hW ht => by
        rw [HRR.out]
        exact look_whole (w := W) h12 HB.out.symm (HE.out.keep (hW.mono (by simp)) (HM.out.keep hW (by simp)).isMap) (HM.out.keep hW (by simp)) ht
      clear e0
      go_region_with (first | (go_at_call 25; refine (HBEG.out _ (Fr.refl [] wx).drew).mono ?_; rintro e w3 ⟨t, rfl, ht, hf⟩; have HF3 := Lib.hid (Fr.trans (T := []) (Fr.refl [] wx).drew hf (by simp)); have HT := Lib.hid ht; have g1 := HF3.out.cell g0 (by simp); clear ht hf) | (go_at_call 20; refine (HLOOK.out _ _ HF3.out HT.out).mono ?_; rintro e w4 ⟨rfl, hf⟩; have HF4 := Lib.hid hf; clear hf))
      all_goals
        have HEND : Hid (Fr [] w w4) := Lib.hid (Fr.trans (T := [w2.heap.size + 1]) (Fr.trans (T := []) HFW.out HF3.out (by simp)) HF4.out (by have := HSZ.out; simp; omega))
        go_wp2_with fail
        go_ret
        exact ⟨rfl, HEND.out⟩
    · go_wp2_with fail
      go_ret
      refine ⟨?_, Fr.trans (T := []) HFB.out HF1.out (by simp)⟩
      rw [HRR.out, fitsB_false.2 (fun h => by have := badTo_iff.2 h.2.1; rw [← HB.out] at this; cases this)]; rfl
  · have t0 : decide ((12 : Int) < (l.length : Int)) = true := by simp; omega
    go_enter Try.func13, Try.ntmps13
    go_upto_region 1 with fail
    rw [← HWB.out]
    obtain ⟨e0, _⟩ := cells1 HBL.out
    go_wp2_with fail
    go_ret
    exact ⟨by rw [HRR.out, fitsB_false.2 (fun h => h12 h.1)]; rfl, HFB.out⟩
end Go.Proofs.Ytbbhekmhffhpfaa
