/- PACKAGE order: begin: contract -/
import Derived.Test.YtbbhekmhffhpfaaOrPw
import Derived.StillTailTactics
namespace Go.Proofs.Ytbbhekmhffhpfaa
open Go.RowKit
set_option linter.unusedVariables false
set_option linter.unusedSimpArgs false

/-- what is there of the keys of the first j calls -/
def ThereTo (first : List ByteArray) (l : List Ca) (j t : Nat) : Prop := t < 4096 ∧ ∀ (i : Nat) (c : Ca), i < j → l[i]? = some c → t.testBit (plc l c.key) = inS first c.key
theorem ThereTo.step {first : List ByteArray} {l : List Ca} {j t : Nat} {x : Ca} (h : ThereTo first l j t) (h12 : l.length ≤ 12) (hx : l[j]? = some x) : ThereTo first l (j + 1) (putN t (plc l x.key) (inS first x.key)) := by
  have hp := plc_lt hx
  refine ⟨putN_lt _ h.1 (by omega), fun i c hi hc => ?_⟩
  have hq := plc_lt hc
  rw [putN_bit _ _ h.1 (by omega) (by omega)]
  by_cases e : plc l c.key = plc l x.key
  · rw [if_pos e, (plc_inj hx c.key).1 e]
  · rw [if_neg e]
    refine h.2 i c ?_ hc
    rcases Nat.lt_or_ge i j with h1 | h1
    · exact h1
    · obtain rfl : i = j := by omega
      rw [hx] at hc
      cases hc
      exact absurd rfl e
set_option maxHeartbeats 4000000 in
theorem or_begin (fv lv kv : Value) (first : List ByteArray) (l : List Ca) (w : World) (hf : SsIn w fv first) (hl : CaIn w lv l) (hk : InIn w kv (pls l)) (h12 : l.length ≤ 12) :
    Calls Try.prog 25 #[fv, lv, kv] w fun e w' => ∃ t, e = .returned (.agg #[.int .u64 0, .int .u64 (t : Nat)]) ∧ ThereTo first l l.length t ∧ Fr [] w w' := by
  obtain ⟨fs, fc, rfl, fa, fb⟩ := LIn.form hf
  obtain ⟨ls, lc, rfl, la, lb⟩ := LIn.form hl
  obtain ⟨ks, kc, rfl, ka, kb⟩ := LIn.form hk
  have hpl : (pls l).length = l.length := by unfold pls; simp
  unfold maxLen at fb lb kb
  have HF := Lib.hid hf
  have HL := Lib.hid hl
  have HK := Lib.hid hk
  clear hf hl hk
  rw [hpl] at ka HK ⊢
  have HPL := Lib.hid hpl
  clear hpl
  go_enter Try.func25, Try.ntmps25
  go_wp2_with fail
  obtain ⟨wb, hwb⟩ : ∃ wb, wb = ((w.alloc (Obj.cells #[.int .u64 0, .int .u64 0] 48)).alloc (Obj.cells #[.int .u64 0, .int .u64 0] 48)) := ⟨_, rfl⟩
  rw [← hwb]
  have hZ : wb.heap.size = w.heap.size + 2 := by rw [hwb]; simp
  have hR : wb.heap[w.heap.size]? = some (Obj.cells #[.int .u64 0, .int .u64 0] 48 (0, 0)) := by rw [hwb]; exact blk_new2 w _ _
  have hP : wb.heap[w.heap.size + 1]? = some (Obj.cells #[.int .u64 0, .int .u64 0] 48 (0, 0)) := by
    rw [hwb]
    have := new_block (w.alloc (Obj.cells #[.int .u64 0, .int .u64 0] 48)) (Obj.cells #[.int .u64 0, .int .u64 0] 48)
    simpa using this
  have HFB : Hid (Fr [] w wb) := Lib.hid (by rw [hwb]; exact ((Fr.refl [] w).alloc _).alloc _)
  have HR := Lib.hid hR
  have HP := Lib.hid hP
  have HZ := Lib.hid hZ
  clear hwb hZ hR hP
  go_loopw [12] (fun i wr => ∃ (j t : Nat), i = .int .i64 j ∧ j ≤ l.length ∧ ThereTo first l j t ∧ wr.heap[w.heap.size + 1]? = some (Obj.cells #[.int .u64 0, .int .u64 (t : Nat)] 48 (0, 0)) ∧ Fr [w.heap.size + 1] wb wr) (fun i _ => l.length - (intOf i).toNat)
  case atStart => exact ⟨0, 0, rfl, Nat.zero_le _, ⟨by decide, fun i c h => absurd h (by omega)⟩, HP.out, Fr.refl _ _⟩
  case round =>
    obtain ⟨j, t, rfl, hj, ht, hp, hf⟩ := hrel
    have HT := Lib.hid ht
    have HP1 := Lib.hid hp
    have HF1 := Lib.hid hf
    have HFW := Lib.hid (Fr.trans (T := [w.heap.size + 1]) HFB.out hf (by simp))
    have hsz : w.heap.size + 2 ≤ wr.heap.size := by have := hf.size; have := HZ.out; omega
    have HSZ := Lib.hid hsz
    clear ht hf hsz
    by_cases h : j < l.length
    · obtain ⟨x, hx⟩ : ∃ x, l[j]? = some x := ⟨_, List.getElem?_eq_getElem h⟩
      obtain ⟨g, off, d1, e1, hg1, l1, k1⟩ := CaIn.here (LIn.keep0 HL.out HFW.out) (by omega)
      simp only [Value.slice.injEq] at e1
      obtain ⟨rfl, _, rfl⟩ := e1
      obtain ⟨y0, y1, y2, y3, y4⟩ := k1 j x hx
      obtain ⟨gk, ok, d2, e2, hg2, l2, k2⟩ := InIn.here (LIn.keep0 HK.out HFW.out) (by rw [HPL.out]; omega)
      rw [HPL.out] at e2
      simp only [Value.slice.injEq] at e2
      obtain ⟨rfl, _, rfl⟩ := e2
      have p0 := k2 j _ (pls_at hx)
      have t1 : decide (j < l.length) = true := by simpa using h
      have HX := Lib.hid hx
      have hpl := plc_lt hx
      have HST := Lib.hid (ThereTo.step HT.out h12 hx)
      obtain ⟨PL, hPL⟩ : ∃ PL, PL = plc l x.key := ⟨_, rfl⟩
      rw [← hPL] at HST p0 hpl
      obtain ⟨B, hB⟩ : ∃ B, B = inS first x.key := ⟨_, rfl⟩
      rw [← hB] at HST
      have HCON : Hid (∀ W, Fr [] w W → Calls Try.prog 30 #[.slice fs first.length fc, .string x.key] W fun e w' => e = .returned (.bool B) ∧ w' = W) := Lib.hid fun W hW => by rw [hB]; exact sl_contains _ first x.key W (LIn.keep0 HF.out hW)
      have HPUT : Hid (∀ W, Calls Try.prog 24 #[.int .u64 t, .int .i64 PL, .bool B] W fun e w' => e = .returned (.int .u64 (putN t PL B : Nat)) ∧ w' = W) := Lib.hid fun W => or_put t PL B HT.out.1 (by omega) W
      have HFA : Hid (∀ o, Fr [] w (wr.alloc o)) := Lib.hid fun o => HFW.out.alloc o
      have z2 := HSZ.out
      have n1 : ¬ w.heap.size + 1 = wr.heap.size := by omega
      have n2 : ¬ wr.heap.size = w.heap.size + 1 := by omega
      have n3 : w.heap.size + 1 < wr.heap.size := by omega
      have n4 : ¬ g = wr.heap.size := by omega
      have n5 : ¬ gk = wr.heap.size := by omega
      have n6 : ¬ wr.heap.size = g := by omega
      have n7 : ¬ wr.heap.size = gk := by omega
      obtain ⟨q0, q1, qf⟩ := cells2 hp
      have qf1 := qf 1
      clear hx k1 k2 hPL hB hp hpl z2 qf
      go_upto_region 5 with fail
      obtain ⟨wc, hwc⟩ : ∃ wc, wc = wr.alloc (Obj.cells #[.int .i64 x.kind, .string x.key, .bool x.ok, .int .i64 x.inv, .int .i64 x.ret] 29) := ⟨_, rfl⟩
      rw [← hwc]
      have hfc : Fr [] wr wc := by rw [hwc]; exact (Fr.refl [] wr).alloc _
      have hcb : wc.heap[wr.heap.size]? = some (Obj.cells #[.int .i64 x.kind, .string x.key, .bool x.ok, .int .i64 x.inv, .int .i64 x.ret] 29 (0, 0)) := by rw [hwc]; exact new_block wr _
      have HPC := Lib.hid (hfc.keep HP1.out (by simp))
      have HFC := Lib.hid hfc
      obtain ⟨c0, c1, c2, c3, c4, _⟩ := cells5 hcb
      obtain ⟨q0', q1', qf'⟩ := cells2 HPC.out
      have p0' := hfc.cell p0 (by simp)
      clear hwc hfc hcb y0 y1 y2 y3 y4 q0 q1 qf1 p0 n1 n2 n3 n4 n5 n6 n7
      have u0 : wc.drew.cell? ⟨wr.heap.size, 1, none⟩ = some (.string x.key) := c1
      have u1 : wc.drew.cell? ⟨w.heap.size + 1, 1, none⟩ = some (.int .u64 t) := q1'
      have u2 : wc.drew.cell? ⟨gk, ok + j, none⟩ = some (.int .i64 PL) := p0'
      have HCON2 := Lib.hid (HCON.out wc.drew (Fr.trans (T := []) HFW.out HFC.out (by simp)).drew)
      have HPUT2 := Lib.hid (HPUT.out wc.drew)
      have HPC2 : Hid (wc.drew.heap[w.heap.size + 1]? = some (Obj.cells #[.int .u64 0, .int .u64 (t : Nat)] 48 (0, 0))) := Lib.hid HPC.out
      have HFC2 := Lib.hid HFC.out.drew
      refine wp_region_still_tail 12 (by kernel_rfl) (by kernel_rfl) ?_
      simp only [List.take_succ_cons, List.take_zero, List.drop_succ_cons, List.drop_zero]
      change wpStill _ _ wc.drew (fun a' => wpList _ _ _ _ a' wc.drew) _ _
      clear c0 c1 c2 c3 c4 q0' q1' qf' p0' HPC HFC
      generalize wc.drew = wd at *
      repeat (first | still_step | still_call HCON2.out | still_call HPUT2.out)
      refine wpStill_nil ?_
      obtain ⟨q0, q1, qf⟩ := cells2 HPC2.out
      have qf1 := qf 1
      have HSET := Lib.hid (set_block HPC2.out 1 (.int .u64 (putN t PL B : Nat)))
      have HFS : Hid (Fr [w.heap.size + 1] wb (wd.setCell ⟨w.heap.size + 1, 1, none⟩ (.int .u64 (putN t PL B : Nat)))) := Lib.hid ((Fr.trans (T := []) HF1.out HFC2.out (by simp)).setCell (Or.inl (by simp)) _)
      have hlt := lt_of_block HPC2.out
      clear u0 u1 u2 qf
      go_wp2_with fail
      go_roundw
      case rel => exact ⟨j + 1, putN t PL B, by go_num, by omega, HST.out, HSET.out, HFS.out⟩
      case measure => simp [intOf]; omega
    · have t1 : decide (j < l.length) = false := by simpa using h
      obtain ⟨q0, q1, qf⟩ := cells2 hp
      obtain ⟨r0, r1, rf⟩ := cells2 (HF1.out.keep HR.out (by simp))
      have rf0 := rf 0
      have rf1 := rf 1
      have n1 : ¬ w.heap.size = w.heap.size + 1 := by omega
      have n2 : ¬ w.heap.size + 1 = w.heap.size := by omega
      have HEND : Hid (ThereTo first l l.length t) := Lib.hid (by
        have e : j = l.length := by omega
        rw [← e]; exact HT.out)
      have hlw : w.heap.size < wr.heap.size := by have := HSZ.out; omega
      have HFE : Hid (Fr [] w ((wr.setCell ⟨w.heap.size, 0, none⟩ (.int .u64 0)).setCell ⟨w.heap.size, 1, none⟩ (.int .u64 (t : Nat)))) := Lib.hid ((HFW.out.setCell (Or.inr (Nat.le_refl _)) _).setCell (Or.inr (Nat.le_refl _)) _)
      clear qf rf hp
      go_wp2_with fail
      refine bodyPost_ret (v := .agg #[.int .u64 0, .int .u64 (t : Nat)]) (by simp [results, Try.results25, go_sem, *]) rfl ?_
      exact ⟨t, rfl, HEND.out, HFE.out⟩
end Go.Proofs.Ytbbhekmhffhpfaa
