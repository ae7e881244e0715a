/- PACKAGE order: Fits' closure: contract -/
import Derived.Test.YtbbhekmhffhpfaaOrEnv
import Derived.Deep.DeepCutAuto
import Derived.WalkMore
import Derived.StillTailTactics
namespace Go.Proofs.Ytbbhekmhffhpfaa
open Go.RowKit
set_option linter.unusedVariables false
set_option linter.unusedSimpArgs false

/-- what look leaves behind -/
def LookOut (l : List Ca) (mb : Nat) (M : Nat → Nat → Bool) (n u L : Nat) (R : Bool) (w' : World) : Prop :=
  ∃ (M' : Nat → Nat → Bool) (n' : Nat), PtSet w' mb n' M' ∧ n' ≤ n + cost u ∧ (R = false → Good l M' L ∧ Old l M M' L)
def PtSets (w : World) (mb nmax : Nat) (P : (Nat → Nat → Bool) → Prop) : Prop := ∃ M n, PtSet w mb n M ∧ n ≤ nmax ∧ P M

set_option maxRecDepth 100000 in
set_option maxHeartbeats 4000000 in
theorem or_look (l : List Ca) (h12 : l.length ≤ 12) (lv kv : Value) (bl bm bk bf mb : Nat) : ∀ (u d t n : Nat) (M : Nat → Nat → Bool) (w : World), left l (tb d) < u → d < 4096 → t < 4096 → Env l lv kv bl bm bk bf mb w → PtSet w mb n M → n + cost u ≤ 2 ^ 62 → Good l M (left l (tb d)) →
    Calls Try.prog 20 #[ptV d t, .pointer (some ⟨bl, 0, none⟩), .pointer (some ⟨bm, 0, none⟩), .pointer (some ⟨bk, 0, none⟩), .pointer (some ⟨bf, 0, none⟩)] w fun e w' =>
      e = .returned (.bool (fitB l (tb d) (sb l t))) ∧ Fr [mb] w w' ∧ LookOut l mb M n u (left l (tb d)) (fitB l (tb d) (sb l t)) w' := by
  intro u
  induction u with
  | zero => intro d t n M w h; exact absurd h (Nat.not_lt_zero _)
  | succ u ih =>
    intro d t n M w hu hd ht he hm hn hg
    obtain ⟨ls, lc, rfl, la, lb⟩ := LIn.form he.cl
    obtain ⟨ks, kc, rfl, ka, kb⟩ := LIn.form he.ck
    have hpl : (pls l).length = l.length := by unfold pls; simp
    rw [hpl] at ka he ih
    unfold maxLen at lb kb
    obtain ⟨wb, hwb⟩ : ∃ wb, wb = w.alloc (Obj.cells #[.int .u64 d, .int .u64 t] 48) := ⟨_, rfl⟩
    have HWB := Lib.hid hwb
    have HX : Hid (wb.heap[w.heap.size]? = some (.cells #[.int .u64 d, .int .u64 t] 48 (0, 0))) := Lib.hid (by rw [hwb]; exact new_block w _)
    have hfb : Fr [] w wb := by rw [hwb]; exact (Fr.refl [] w).alloc _
    have HFB := Lib.hid hfb
    have HPS := Lib.hid (PtSet.keep hm hfb (by simp))
    have HE := Lib.hid (he.keep (hfb.mono (by simp)) HPS.out.isMap)
    have HD := Lib.hid hd
    have HT := Lib.hid ht
    have HG := Lib.hid hg
    have HU := Lib.hid hu
    have HPL := Lib.hid hpl
    have IH := Lib.hid ih
    have hmlt := hm.lt
    have HML := Lib.hid hmlt
    have HWZ : Hid (∀ k, k = w.heap.size → k ≠ mb) := Lib.hid (fun k hk => by omega)
    clear hwb hfb hm he hd ht hg hu hpl ih
    obtain ⟨R, hR⟩ : ∃ R, R = fitB l (tb d) (sb l t) := ⟨_, rfl⟩
    rw [← hR]
    have HR := Lib.hid hR
    clear hR
    obtain ⟨q0, q1, _⟩ := cells2 HX.out
    obtain ⟨e0, _⟩ := cells1 HE.out.vl
    obtain ⟨e1, _⟩ := cells1 HE.out.vm
    have hmf : ∀ (fn : Fn) (first cap : Array Value) (w : World), (Instr.makeFunc fn first cap).run Try.prog w = .ok (.func fn first cap) w := fun fn first cap w => rfl
    obtain ⟨A, hA⟩ : ∃ A, A = allTo l (fun i => d.testBit i) l.length := ⟨_, rfl⟩
    have HWH : Hid (∀ W, Fr [] wb W → Calls Try.prog 21 #[.agg #[.int .u64 d, .int .u64 t], .slice ls l.length lc] W fun e w' => e = .returned (.bool A) ∧ Fr [] W w') := Lib.hid fun W hW => by rw [hA]; exact or_whole d t _ l W HD.out (LIn.keep0 HE.out.cl hW) h12
    have HA := Lib.hid hA
    clear hA
    unfold ptV
    go_enter Try.func20, Try.ntmps20
    go_upto_region 1 with fail
    rw [← HWB.out]
    go_step3
    go_wp2_with (go_at_call 21; refine (HWH.out _ (Fr.refl [] wb)).mono ?_; rintro e w1 ⟨rfl, hf⟩; refine go_stop ?_)
    unfold Stop
    have HF1 := Lib.hid hf
    have HE1 := Lib.hid (HE.out.keep (hf.mono (by simp)) (HPS.out.keep hf (by simp)).isMap)
    have HPS1 := Lib.hid (HPS.out.keep hf (by simp))
    have HX1 := Lib.hid (hf.keep HX.out (by simp))
    clear hf q0 q1 e0 e1 HE HPS HX HWH
    cases A
    · obtain ⟨q0, q1, _⟩ := cells2 HX1.out
      obtain ⟨e1, _⟩ := cells1 HE1.out.vm
      have hlk := HPS1.out.look HD.out HT.out
      unfold ptV at hlk
      obtain ⟨S, hS⟩ : ∃ S, S = M d t := ⟨_, rfl⟩
      rw [← hS] at hlk
      have HS := Lib.hid hS
      clear hS
      have hzs : ∀ W : World, (zeroValue 50).run Try.prog W = .ok (.agg #[]) W := fun W => by kernel_rfl
      have HF2 := Lib.hid (HF1.out.alloc (.cells #[] 50))
      have HFA := Lib.hid ((Fr.refl [] w1).alloc (.cells #[] 50))
      have HPS2 := Lib.hid (HPS1.out.keep HFA.out (by simp))
      have HE2 := Lib.hid (HE1.out.keep (HFA.out.mono (by simp)) HPS2.out.isMap)
      have HX2 := Lib.hid (HFA.out.keep HX1.out (by simp))
      cases S
      · go_upto_region 6 with fail
        have HFW2 := Lib.hid (Fr.trans (T := []) HFB.out HF2.out (by simp))
        obtain ⟨w3, hst, hp3, hf3⟩ := HPS2.out.put (by unfold maxLen; have := hn; unfold cost at this; omega) HD.out HT.out
        unfold ptV at hst
        have hxm : w.heap.size ∉ [mb] := by have := HML.out; simp; omega
        have HX3 := Lib.hid (hf3.keep HX2.out hxm)
        have HE3 := Lib.hid (HE2.out.keep hf3 hp3.isMap)
        have HPS3 := Lib.hid hp3
        have HF3 := Lib.hid (Fr.trans (T := [mb]) (HFW2.out.mono (by simp) : Fr [mb] w _) hf3 (fun x hx => Or.inl hx))
        have HXM := Lib.hid hxm
        clear hp3 hf3 hxm hlk q0 q1 e1 HE1 HPS1 HX1 HF1
        generalize w1.alloc (Obj.cells #[] 50) = w2 at *
        obtain ⟨q0, q1, _⟩ := cells2 HX2.out
        obtain ⟨e1, _⟩ := cells1 HE2.out.vm
        obtain ⟨f0, _⟩ := cells1 HE3.out.vl
        go_wp2_with fail
        go_step3
        go_wp2_with fail
        go_loopw [30] (fun i wr => ∃ (j : Nat), i = .int .i64 j ∧ j ≤ l.length ∧ (∀ i, i < j → ¬ Leads l (tb d) (sb l t) i) ∧ Fr [mb] w3 wr ∧ PtSets wr mb (n + 1 + j * cost u) (fun M' => Mid l M M' d t)) (fun i _ => l.length - (intOf i).toNat)
        case atStart => exact ⟨0, rfl, Nat.zero_le _, fun i h => absurd h (by omega), Fr.refl _ _, _, _, HPS3.out, by omega, Mid.start HG.out⟩
        case round =>
          obtain ⟨j, rfl, hj, hno, hf, Mj, nj, hpj, hnj, hmid⟩ := hrel
          have HNO := Lib.hid hno
          have HFR := Lib.hid hf
          have HFJ := Lib.hid (Fr.trans (T := [mb]) HF3.out hf (fun x hx => Or.inl hx))
          have HPJ := Lib.hid hpj
          have HMID := Lib.hid hmid
          have HNJ := Lib.hid hnj
          have HEJ := Lib.hid (HE3.out.keep hf hpj.isMap)
          have HXJ := Lib.hid (hf.keep HX3.out HXM.out)
          clear hno hf hpj hmid hnj q0 q1 e1 f0
          by_cases h : j < l.length
          · obtain ⟨c, hc⟩ : ∃ c, l[j]? = some c := ⟨_, List.getElem?_eq_getElem h⟩
            obtain ⟨gl, ol, d1, e2, hgl, l2, k2⟩ := CaIn.here HEJ.out.cl (by omega)
            simp only [Value.slice.injEq] at e2
            obtain ⟨rfl, _, rfl⟩ := e2
            obtain ⟨y0, y1, y2, y3, y4⟩ := k2 j c hc
            have t1 : decide (j < l.length) = true := by simpa using h
            have HC := Lib.hid hc
            obtain ⟨T, hT⟩ : ∃ T, T = d.testBit j := ⟨_, rfl⟩
            have HHAS : Hid (∀ W, Calls Try.prog 22 #[.int .u64 d, .int .i64 j] W fun e w' => e = .returned (.bool T) ∧ w' = W) := Lib.hid fun W => by rw [hT]; exact or_has d j HD.out W (by omega)
            have HT1 := Lib.hid hT
            have HNB := Lib.hid (new_block wr (.cells #[.int .i64 c.kind, .string c.key, .bool c.ok, .int .i64 c.inv, .int .i64 c.ret] 29))
            have hfa : Fr [] wr (wr.alloc (.cells #[.int .i64 c.kind, .string c.key, .bool c.ok, .int .i64 c.inv, .int .i64 c.ret] 29)) := (Fr.refl [] wr).alloc _
            have HFA1 := Lib.hid hfa
            have HXA := Lib.hid (hfa.keep HXJ.out (by simp))
            have HPA := Lib.hid (HPJ.out.keep hfa (by simp))
            have HEA := Lib.hid (HEJ.out.keep (hfa.mono (by simp)) HPA.out.isMap)
            have hxlt := lt_of_block HXJ.out
            have HCZ : Hid (wr.heap.size ≠ mb ∧ wr.heap.size ≠ w.heap.size) := Lib.hid ⟨by have := HPJ.out.lt; omega, by omega⟩
            clear hc k2 hT hfa hxlt
            go_upto_region 10 with fail
            generalize hwc : wr.alloc (.cells #[.int .i64 c.kind, .string c.key, .bool c.ok, .int .i64 c.inv, .int .i64 c.ret] 29) = wA at *
            clear hwc y0 y1 y2 y3 y4
            obtain ⟨q0, q1, _⟩ := cells2 HXA.out
            obtain ⟨f0, _⟩ := cells1 HEA.out.vl
            cases T
            · go_wp2_with (go_at_call 22; refine (HHAS.out _).mono ?_; rintro e wA ⟨rfl, rfl⟩)
              obtain ⟨wO, hwO⟩ : ∃ x, x = wr := ⟨_, rfl⟩
              subst hwO
              have HFC := Lib.hid (Fr.trans (T := []) HFJ.out HFA1.out (by simp))
              have HFRC := Lib.hid (Fr.trans (T := []) HFR.out HFA1.out (by simp))
              clear q0 q1 f0
              go_loopw [41] (fun i wr => ∃ (k : Nat), i = .int .i64 k ∧ k ≤ l.length ∧ freeTo l (tb d) c k = true ∧ Fr [] wA wr) (fun i _ => l.length - (intOf i).toNat)
              case atStart => exact ⟨0, rfl, Nat.zero_le _, rfl, Fr.refl _ _⟩
              case round =>
                obtain ⟨k, rfl, hk, hfr, hf⟩ := hrel
                have HFK := Lib.hid hf
                have HFREE := Lib.hid hfr
                have HPK := Lib.hid (HPA.out.keep hf (by simp))
                have HEK := Lib.hid (HEA.out.keep (hf.mono (by simp)) HPK.out.isMap)
                have HXK := Lib.hid (hf.keep HXA.out (by simp))
                have HCK := Lib.hid (hf.keep HNB.out (by simp))
                clear hf hfr
                by_cases h2 : k < l.length
                · obtain ⟨c2, hc2⟩ : ∃ c2, l[k]? = some c2 := ⟨_, List.getElem?_eq_getElem h2⟩
                  obtain ⟨gl2, ol2, d2, e2, hgl2, l3, k2⟩ := CaIn.here HEK.out.cl (by omega)
                  simp only [Value.slice.injEq] at e2
                  obtain ⟨e2, _, rfl⟩ := e2
                  simp only [Option.some.injEq, Addr.mk.injEq, and_true, true_and] at e2
                  obtain ⟨rfl, rfl⟩ := e2
                  obtain ⟨y0, y1, y2, y3, y4⟩ := k2 k c2 hc2
                  have t2 : decide (k < l.length) = true := by simpa using h2
                  have HC2 := Lib.hid hc2
                  obtain ⟨T2, hT2⟩ : ∃ T, T = d.testBit k := ⟨_, rfl⟩
                  have HHAS2 : Hid (∀ W, Calls Try.prog 22 #[.int .u64 d, .int .i64 k] W fun e w' => e = .returned (.bool T2) ∧ w' = W) := Lib.hid fun W => by rw [hT2]; exact or_has d k HD.out W (by omega)
                  have HT2 := Lib.hid hT2
                  obtain ⟨AH, hAH⟩ : ∃ AH, AH = ahead c2 c := ⟨_, rfl⟩
                  have HAHC : Hid (∀ W, Calls Try.prog 11 #[c2.agg, c.agg] W fun e w' => e = .returned (.bool AH) ∧ Fr [] W w') := Lib.hid fun W => by rw [hAH]; exact or_ahead c2 c W
                  have HAH := Lib.hid hAH
                  have HST : Hid (freeTo l (tb d) c (k + 1) = (T2 || !AH)) := Lib.hid (by
                    rw [freeTo_step hc2, HFREE.out, hT2, hAH]; rfl)
                  have HNB2 := Lib.hid (new_block wr (.cells #[.int .i64 c2.kind, .string c2.key, .bool c2.ok, .int .i64 c2.inv, .int .i64 c2.ret] 29))
                  have hfa : Fr [] wr (wr.alloc (.cells #[.int .i64 c2.kind, .string c2.key, .bool c2.ok, .int .i64 c2.inv, .int .i64 c2.ret] 29)) := (Fr.refl [] wr).alloc _
                  have HFA2 := Lib.hid hfa
                  have HXA2 := Lib.hid (hfa.keep HXK.out (by simp))
                  have HCA2 := Lib.hid (hfa.keep HCK.out (by simp))
                  have HFN := Lib.hid (Fr.trans (T := []) HFK.out hfa (by simp))
                  clear hc2 k2 hT2 hAH hfa
                  go_upto_region 14 with fail
                  generalize hwd : wr.alloc (.cells #[.int .i64 c2.kind, .string c2.key, .bool c2.ok, .int .i64 c2.inv, .int .i64 c2.ret] 29) = wd at *
                  clear hwd y0 y1 y2 y3 y4
                  obtain ⟨q0, q1, _⟩ := cells2 HXA2.out
                  obtain ⟨z0, z1, z2, z3, z4, _⟩ := cells5 HCA2.out
                  obtain ⟨x0, x1, x2, x3, x4, _⟩ := cells5 HNB2.out
                  cases T2
                  · cases AH
                    · go_wp2_with (first | (go_at_call 22; refine (HHAS2.out _).mono ?_; rintro e w9 ⟨rfl, rfl⟩) | (go_at_call 11; refine (HAHC.out _).mono ?_; rintro e w9 ⟨rfl, hf9⟩; have HF9 := Lib.hid hf9; clear hf9))
                      go_roundw
                      case rel => exact ⟨k + 1, by go_num, by omega, by rw [HST.out]; rfl, Fr.trans (T := []) HFN.out HF9.out (by simp)⟩
                      case measure => simp [intOf]; omega
                    · have HNL : Hid (¬ Leads l (tb d) (sb l t) j) := Lib.hid (by
                        rw [leads_iff (f := tb d) HC.out HT1.out.symm]
                        rintro ⟨q, _⟩
                        have := freeTo_iff.1 q k c2 (by omega) HC2.out HT2.out.symm
                        rw [← HAH.out] at this; cases this)
                      go_wp2_with (first | (go_at_call 22; refine (HHAS2.out _).mono ?_; rintro e w9 ⟨rfl, rfl⟩) | (go_at_call 11; refine (HAHC.out _).mono ?_; rintro e w9 ⟨rfl, hf9⟩; have HF9 := Lib.hid hf9; clear hf9))
                      go_roundw
                      case rel => exact ⟨j + 1, by go_num, by omega, not_leads HNO.out HNL.out, Fr.trans (T := []) HFRC.out (Fr.trans (T := []) HFN.out HF9.out (by simp)) (by simp), Mj, nj, HPA.out.keep (Fr.trans (T := []) HFN.out HF9.out (by simp)) (by simp), by have := HNJ.out; rw [Nat.succ_mul]; omega, HMID.out⟩
                      case measure => simp [intOf]; omega
                  · go_wp2_with (go_at_call 22; refine (HHAS2.out _).mono ?_; rintro e w9 ⟨rfl, rfl⟩)
                    go_roundw
                    case rel => exact ⟨k + 1, by go_num, by omega, by rw [HST.out]; rfl, HFN.out⟩
                    case measure => simp [intOf]; omega
                · have t2 : decide (k < l.length) = false := by simpa using h2
                  have HFL : Hid (freeTo l (tb d) c l.length = true) := Lib.hid (by
                    have e : k = l.length := by omega
                    rw [← e]; exact HFREE.out)
                  obtain ⟨gk, okk, d3, e3, hgk, l4, k4⟩ := InIn.here HEK.out.ck (by rw [HPL.out]; omega)
                  rw [HPL.out] at e3
                  simp only [Value.slice.injEq] at e3
                  obtain ⟨rfl, _, rfl⟩ := e3
                  have p0 := k4 j _ (pls_at HC.out)
                  have hplt := plc_lt HC.out
                  obtain ⟨PL, hPLC⟩ : ∃ PL, PL = plc l c.key := ⟨_, rfl⟩
                  rw [← hPLC] at p0 hplt
                  obtain ⟨WAS, hWAS⟩ : ∃ b, b = sb l t c.key := ⟨_, rfl⟩
                  have HHAS3 : Hid (∀ W, Calls Try.prog 22 #[.int .u64 t, .int .i64 PL] W fun e w' => e = .returned (.bool WAS) ∧ Fr [] W w') := Lib.hid fun W => (or_has t PL HT.out W (by omega)).mono (fun e w' he => ⟨by rw [he.1, hWAS, hPLC]; rfl, by rw [he.2]; exact Fr.refl _ _⟩)
                  obtain ⟨OK, hOK⟩ : ∃ b, b = doOk c.kind WAS := ⟨_, rfl⟩
                  obtain ⟨IS, hIS⟩ : ∃ b, b = doIs c.kind WAS := ⟨_, rfl⟩
                  have HDO : Hid (∀ W, Calls Try.prog 23 #[.int .i64 c.kind, .bool WAS] W fun e w' => e = .returned (.tuple #[.bool OK, .bool IS]) ∧ Fr [] W w') := Lib.hid fun W => (or_do c.kind WAS W).mono (fun e w' he => ⟨by rw [he.1, hOK, hIS], by rw [he.2]; exact Fr.refl _ _⟩)
                  have HPLC := Lib.hid hPLC
                  have HWAS := Lib.hid hWAS
                  have HOK := Lib.hid hOK
                  have HIS := Lib.hid hIS
                  have HPLT := Lib.hid hplt
                  obtain ⟨q0, q1, _⟩ := cells2 HXK.out
                  obtain ⟨z0, z1, z2, z3, z4, _⟩ := cells5 HCK.out
                  obtain ⟨r0, _⟩ := cells1 HEK.out.vk
                  have a0 : ∀ n : After [] wr, n.now.cell? ⟨wO.heap.size, 0, none⟩ = some (.int .i64 c.kind) := fun n => n.cell z0 (by simp)
                  have a1 : ∀ n : After [] wr, n.now.cell? ⟨w.heap.size, 1, none⟩ = some (.int .u64 t) := fun n => n.cell q1 (by simp)
                  have a2 : ∀ n : After [] wr, n.now.cell? ⟨bk, 0, none⟩ = some (.slice (some ⟨gk, okk, none⟩) l.length kc) := fun n => n.cell r0 (by simp)
                  have a3 : ∀ n : After [] wr, n.now.cell? ⟨gk, okk + j, none⟩ = some (.int .i64 PL) := fun n => n.cell p0 (by simp)
                  clear k4 hPLC hWAS hOK hIS hplt q0 q1 z0 z1 z2 z3 z4 r0 p0
                  go_upto_region 16 with fail
                  refine wp_region_after [] (by kernel_rfl) (by kernel_rfl) ?_
                  repeat (go_big_quiet_step (first | (go_at_call 22; exact After.quiet (HHAS3.out _)) | (go_at_call 23; exact After.quiet (HDO.out _))))
                  refine wpQuiet_nil ?_
                  rintro _ ⟨nq, rfl⟩
                  have HFQ := Lib.hid nq.fr
                  generalize nq.now = wq at *
                  clear a0 a1 a2 a3 nq
                  have HFKQ := Lib.hid (Fr.trans (T := []) HFK.out HFQ.out (by simp))
                  have HCQ := Lib.hid (HFQ.out.keep HCK.out (by simp))
                  obtain ⟨z0, z1, z2, z3, z4, _⟩ := cells5 HCQ.out
                  obtain ⟨B, hB⟩ : ∃ b, b = decide (0 ≤ c.ret) := ⟨_, rfl⟩
                  have HANS : Hid (∀ W, Calls Try.prog 16 #[c.agg] W fun e w' => e = .returned (.bool B) ∧ Fr [] W w') := Lib.hid fun W => by rw [hB]; exact or_answered c W
                  have HB := Lib.hid hB
                  obtain ⟨CO, hCO⟩ : ∃ b, b = c.ok := ⟨_, rfl⟩
                  have HCO := Lib.hid hCO
                  obtain ⟨SK, hSK⟩ : ∃ b, b = (B && (OK != CO)) := ⟨_, rfl⟩
                  have HSK := Lib.hid hSK
                  clear hB hCO hSK
                  go_upto_region 17 with fail
                  go_cut [77] (fun v wx => v = .bool SK ∧ Fr [] wq wx)
                  case first =>
                    go_wp2_with (go_at_call 16; refine (HANS.out _).mono ?_; rintro e w9 ⟨rfl, hf⟩; refine go_stop ?_)
                    unfold Stop
                    have HF9 := Lib.hid hf
                    have HC9 := Lib.hid (hf.keep HCQ.out (by simp))
                    rw [← HCO.out] at HC9
                    clear hf z0 z1 z2 z3 z4
                    obtain ⟨z0, z1, z2, z3, z4, _⟩ := cells5 HC9.out
                    cases B
                    · go_wp2_with fail
                      go_meet
                      exact ⟨by rw [HSK.out]; rfl, HF9.out⟩
                    · go_wp2_with fail
                      go_meet
                      exact ⟨by rw [HSK.out]; rfl, HF9.out⟩
                  case rest =>
                  obtain ⟨rfl, hfs⟩ := hcut
                  have HFS := Lib.hid (Fr.trans (T := []) HFKQ.out hfs (by simp))
                  clear hfs z0 z1 z2 z3 z4
                  obtain ⟨wx, hwx⟩ : ∃ x, x = wc := ⟨_, rfl⟩
                  subst hwx
                  cases SK
                  · have HXX := Lib.hid (HFS.out.keep HXA.out (by simp))
                    have HPX := Lib.hid (HPA.out.keep HFS.out.drew (by simp))
                    have HEX := Lib.hid (HEA.out.keep (HFS.out.drew.mono (by simp)) HPX.out.isMap)
                    obtain ⟨D2, hD2⟩ : ∃ x, x = putN d j true := ⟨_, rfl⟩
                    obtain ⟨T3, hT3⟩ : ∃ x, x = putN t PL IS := ⟨_, rfl⟩
                    have HPUT1 : Hid (Calls Try.prog 24 #[.int .u64 d, .int .i64 j, .bool true] wx.drew fun e w' => e = .returned (.int .u64 (D2 : Nat)) ∧ w' = wx.drew) := Lib.hid (by rw [hD2]; exact or_put d j true HD.out (by omega) _)
                    have HPUT2 : Hid (Calls Try.prog 24 #[.int .u64 t, .int .i64 PL, .bool IS] wx.drew fun e w' => e = .returned (.int .u64 (T3 : Nat)) ∧ w' = wx.drew) := Lib.hid (by rw [hT3]; exact or_put t PL IS HT.out (by have := HPLT.out; omega) _)
                    have HLE : Hid (left l (tb D2) + 1 = left l (tb d)) := Lib.hid (by rw [hD2]; exact left_put h12 HD.out HC.out HT1.out.symm)
                    have HD2L : Hid (D2 < 4096) := Lib.hid (by rw [hD2]; exact putN_lt _ HD.out (by omega))
                    have HT3L : Hid (T3 < 4096) := Lib.hid (by rw [hT3]; exact putN_lt _ HT.out (by have := HPLT.out; omega))
                    have HLD : Hid (Leads l (tb d) (sb l t) j ↔ FitP l D2 T3) := Lib.hid (by
                      rw [leads_iff (f := tb d) HC.out HT1.out.symm, hD2, hT3, HPLC.out, HIS.out, HWAS.out, fitP_put h12 HD.out HT.out HC.out]
                      refine ⟨fun h => h.2.2, fun h => ⟨HFL.out, fun hr => ?_, h⟩⟩
                      have h5 := HSK.out.symm
                      rw [← HWAS.out, ← HOK.out, ← HCO.out]
                      rw [HB.out, decide_eq_true hr, Bool.true_and, bne_eq_false_iff_eq] at h5
                      exact h5)
                    clear hD2 hT3
                    have hjl : j * cost u + cost u ≤ 12 * cost u := by
                      have : (j + 1) * cost u ≤ 12 * cost u := Nat.mul_le_mul_right _ (by omega)
                      rw [Nat.succ_mul] at this; exact this
                    have HJL := Lib.hid hjl
                    have HNB2 : Hid (nj + cost u ≤ 2 ^ 62) := Lib.hid (by
                      have h1 := HNJ.out
                      have h3 := hn
                      unfold cost at h3
                      omega)
                    have HREC := Lib.hid (IH.out D2 T3 nj Mj wx.drew (by have := HLE.out; have := HU.out; omega) HD2L.out HT3L.out HEX.out HPX.out HNB2.out (HMID.out.good (by have := HLE.out; omega)))
                    obtain ⟨R2, hR2⟩ : ∃ b, b = fitB l (tb D2) (sb l T3) := ⟨_, rfl⟩
                    rw [← hR2] at HREC
                    have HR2 := Lib.hid hR2
                    clear hR2 hjl
                    unfold ptV at HREC
                    obtain ⟨q0, q1, _⟩ := cells2 HXX.out
                    obtain ⟨r0, _⟩ := cells1 HEX.out.vk
                    obtain ⟨g0, _⟩ := cells1 HEX.out.vf
                    unfold lookV at g0
                    have p0 := (InIn.here HEX.out.ck (by rw [HPL.out]; omega))
                    obtain ⟨gk2, okk2, d5, e5, _, _, k5⟩ := p0
                    rw [HPL.out] at e5
                    simp only [Value.slice.injEq, Option.some.injEq, Addr.mk.injEq, and_true, true_and] at e5
                    obtain ⟨⟨rfl, rfl⟩, rfl⟩ := e5
                    have p1 := k5 j _ (pls_at HC.out)
                    rw [← HPLC.out] at p1
                    have q0' : wx.drew.cell? ⟨w.heap.size, 0, none⟩ = some (.int .u64 d) := q0
                    have q1' : wx.drew.cell? ⟨w.heap.size, 1, none⟩ = some (.int .u64 t) := q1
                    have HFD := Lib.hid HFS.out.drew
                    clear k5 q0 q1
                    go_upto_region 18 with fail
                    refine wp_region_still_tail 14 (by kernel_rfl) (by kernel_rfl) ?_
                    simp only [List.take_succ_cons, List.take_zero, List.drop_succ_cons, List.drop_zero]
                    change wpStill _ _ wx.drew (fun a' => wpList _ _ _ _ a' wx.drew) _ _
                    generalize wx.drew = wd at *
                    repeat still_step
                    still_call HPUT1.out
                    repeat still_step
                    still_call HPUT2.out
                    repeat still_step
                    refine wpStill_nil ?_
                    clear p1 q0' q1' r0 g0
                    go_wp2_with (go_at_call 20; refine HREC.out.mono ?_; rintro e w4 ⟨rfl, hf4, M4, n4, hp4, hn4, hg4⟩; refine go_stop ?_)
                    unfold Stop
                    have HF4 := Lib.hid (Fr.trans (T := [mb]) (HFD.out.mono (by simp) : Fr [mb] wA wd) hf4 (fun x hx => Or.inl hx))
                    have HP4 := Lib.hid hp4
                    have HN4 := Lib.hid hn4
                    have HG4 := Lib.hid hg4
                    clear hf4 hp4 hn4 hg4
                    cases R2
                    · have HNL : Hid (¬ Leads l (tb d) (sb l t) j) := Lib.hid (by rw [HLD.out]; exact fitB_false.1 HR2.out.symm)
                      have HMS := Lib.hid (HMID.out.step HLE.out (HG4.out rfl).1 (HG4.out rfl).2)
                      go_wp2_with fail
                      go_roundw
                      case rel => exact ⟨j + 1, by go_num, by omega, not_leads HNO.out HNL.out, Fr.trans (T := [mb]) HFRC.out HF4.out (fun x hx => Or.inl hx), M4, n4, HP4.out, by have := HNJ.out; have := HN4.out; rw [Nat.succ_mul]; omega, HMS.out⟩
                      case measure => simp [intOf]; omega
                    · have HYES : Hid (R = true) := Lib.hid (by rw [HR.out]; exact fitB_true.2 (fitI_cases.2 (Or.inr ⟨j, HLD.out.2 (fitB_true.1 HR2.out.symm)⟩)))
                      go_wp2_with fail
                      try rw [Exit.noGoto_ret]
                      go_ret
                      rw [HYES.out]
                      refine ⟨rfl, Fr.trans (T := [mb]) HFC.out HF4.out (fun x hx => Or.inl hx), M4, n4, HP4.out, ?_, fun h => by cases h⟩
                      have h1 := HNJ.out
                      have h2 := HN4.out
                      have h3 := HJL.out
                      show n4 ≤ n + (1 + 12 * cost u)
                      omega
                  · have HNL : Hid (¬ Leads l (tb d) (sb l t) j) := Lib.hid (by
                      rw [leads_iff (f := tb d) HC.out HT1.out.symm]
                      rintro ⟨_, q, _⟩
                      have h5 := HSK.out.symm
                      rw [Bool.and_eq_true, bne_iff_ne] at h5
                      have h6 : 0 ≤ c.ret := of_decide_eq_true (HB.out.symm.trans h5.1)
                      apply h5.2
                      rw [HOK.out, HWAS.out, HCO.out]
                      exact q h6)
                    go_wp2_with fail
                    go_roundw
                    case rel => exact ⟨j + 1, by go_num, by omega, not_leads HNO.out HNL.out, Fr.trans (T := []) HFRC.out HFS.out (by simp), Mj, nj, HPA.out.keep HFS.out (by simp), by have := HNJ.out; rw [Nat.succ_mul]; omega, HMID.out⟩
                    case measure => simp [intOf]; omega
            · go_wp2_with (go_at_call 22; refine (HHAS.out _).mono ?_; rintro e w9 ⟨rfl, rfl⟩)
              go_roundw
              case rel => exact ⟨j + 1, by go_num, by omega, not_leads HNO.out (leads_done HT1.out.symm), (Fr.trans (T := []) HFR.out HFA1.out (by simp)), Mj, nj, HPA.out, by have := HNJ.out; rw [Nat.succ_mul]; omega, HMID.out⟩
              case measure => simp [intOf]; omega
          · have t1 : decide (j < l.length) = false := by simpa using h
            have HE : Hid (R = false) := Lib.hid (by
              rw [HR.out, fit_end (fun i hi => HNO.out i (by omega))]
              exact HA.out.symm)
            have HFIN := Lib.hid (HMID.out.fin HG.out (fitB_false.1 (HR.out.symm.trans HE.out)))
            have hcost : cost (u + 1) = 1 + 12 * cost u := rfl
            have hjl : j * cost u ≤ 12 * cost u := Nat.mul_le_mul_right _ (by omega)
            go_wp2_with fail
            try rw [Exit.noGoto_ret]
            go_ret
            rw [HE.out]
            exact ⟨rfl, HFJ.out, Mj, nj, HPJ.out, by have := HNJ.out; omega, fun _ => HFIN.out⟩
      · have HNO : Hid (R = false) := Lib.hid (by rw [HR.out]; exact fitB_false.2 (HG.out d t HD.out HT.out HS.out.symm (Nat.le_refl _)))
        go_wp2_with fail
        try rw [Exit.noGoto_ret]
        go_ret
        rw [HNO.out]
        exact ⟨rfl, (Fr.trans (T := []) HFB.out HF2.out (by simp)).mono (by simp), M, n, HPS2.out, Nat.le_add_right _ _, fun _ => ⟨HG.out, fun d' t' _ _ h _ => h⟩⟩
    · have HYES : Hid (R = true) := Lib.hid (by rw [HR.out]; exact fitB_true.2 (FitI.all (allTo_len.1 HA.out.symm)))
      go_wp2_with fail
      try rw [Exit.noGoto_ret]
      go_ret
      rw [HYES.out]
      exact ⟨rfl, (Fr.trans (T := []) HFB.out HF1.out (by simp)).mono (by simp), M, n, HPS1.out, Nat.le_add_right _ _, fun h => by cases h⟩
end Go.Proofs.Ytbbhekmhffhpfaa
