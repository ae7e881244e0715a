/- PACKAGE subidx: balance: contract -/
import Derived.Test.YtcieokfjkfpajaaSiLift
namespace Go.Proofs.Ytcieokfjkfpajaa
open Go.RowKit
set_option linter.unusedVariables false
set_option linter.unusedSimpArgs false

theorem blks_of_lst {a b : Tr} (h : a.lst = b.lst) : a.blks = b.blks := by unfold Tr.blks; rw [h]
theorem turn1_blks (t : Tr) : (turn1 t).blks = t.blks := blks_of_lst (turn1_lst t)
theorem turn0_blks (t : Tr) : (turn0 t).blks = t.blks := blks_of_lst (turn0_lst t)
theorem bal_end0 (b : Nat) (s : Sb) (l r : Tr) (hA : r.ht + 1 < l.ht) (nd : (Tr.node b s l r).blks.Nodup) (hs : (Tr.node b s l r).lst.length < 1000000) (w W : World) (hf : Fr (Tr.node b s l r).blks w W) (h1 : Hole W b s (turn1 l).ptr r.ptr) (h2 : TrAt W (turn1 l)) (h3 : TrAt W r) :
    Calls Try.prog 49 #[.pointer (some ⟨b, 0, none⟩), .int .i64 0] W fun e w' => e = .returned (.pointer (balT b s l r).ptr) ∧ TrAt w' (balT b s l r) ∧ Fr (Tr.node b s l r).blks w w' := by
  have hlen := Tr.ht_le l
  obtain ⟨q, qs, ql, qr, hT⟩ := Tr.node_of (t := turn1 l) (notnil_of_lst (by rw [turn1_lst]; omega))
  have e1 : balT b s l r = .node q qs ql (.node b s qr r) := by unfold balT; rw [if_pos hA, hT]; rfl
  have hb1 := turn1_blks l
  have hl1 := turn1_lst l
  rw [hT] at h1 h2 hb1 hl1
  have C := si_lift0 b s q qs ql qr r W h1 h2.hole h2.2.1 h2.2.2 h3 (by rw [Tr.blks_node, hb1, ← Tr.blks_node b s l r]; exact nd) (by simp only [Tr.lst] at hl1 hs ⊢; rw [hl1]; exact hs)
  rw [e1]
  refine C.mono ?_
  rintro e w' ⟨rfl, ht, hf2⟩
  refine ⟨rfl, ht, hf.trans hf2 ?_⟩
  intro x hx
  left
  rw [Tr.blks_node]
  rw [Tr.blks_node] at hb1
  simp only [List.mem_cons, List.not_mem_nil, or_false] at hx
  rcases hx with rfl | rfl
  · simp
  · rw [← hb1]; simp
theorem bal_end1 (b : Nat) (s : Sb) (l r : Tr) (hA : ¬ r.ht + 1 < l.ht) (hB : l.ht + 1 < r.ht) (nd : (Tr.node b s l r).blks.Nodup) (hs : (Tr.node b s l r).lst.length < 1000000) (w W : World) (hf : Fr (Tr.node b s l r).blks w W) (h1 : Hole W b s l.ptr (turn0 r).ptr) (h2 : TrAt W (turn0 r)) (h3 : TrAt W l) :
    Calls Try.prog 49 #[.pointer (some ⟨b, 0, none⟩), .int .i64 1] W fun e w' => e = .returned (.pointer (balT b s l r).ptr) ∧ TrAt w' (balT b s l r) ∧ Fr (Tr.node b s l r).blks w w' := by
  have hlen := Tr.ht_le r
  obtain ⟨q, qs, ql, qr, hT⟩ := Tr.node_of (t := turn0 r) (notnil_of_lst (by rw [turn0_lst]; omega))
  have e1 : balT b s l r = .node q qs (.node b s l ql) qr := by unfold balT; rw [if_neg hA, if_pos hB, hT]; rfl
  have hb1 := turn0_blks r
  have hl1 := turn0_lst r
  rw [hT] at h1 h2 hb1 hl1
  have C := si_lift1 b s q qs ql qr l W h1 h2.hole h2.2.1 h2.2.2 h3 (by rw [Tr.blks_node, hb1, ← Tr.blks_node b s l r]; exact nd) (by simp only [Tr.lst] at hl1 hs ⊢; rw [hl1]; exact hs)
  rw [e1]
  refine C.mono ?_
  rintro e w' ⟨rfl, ht, hf2⟩
  refine ⟨rfl, ht, hf.trans hf2 ?_⟩
  intro x hx
  left
  rw [Tr.blks_node]
  rw [Tr.blks_node] at hb1
  simp only [List.mem_cons, List.not_mem_nil, or_false] at hx
  rcases hx with rfl | rfl
  · simp
  · rw [← hb1]; simp
theorem bal_in0 (b : Nat) (s : Sb) (l r : Tr) (hi : l.ht < r.ht) (nd : (Tr.node b s l r).blks.Nodup) (hs : (Tr.node b s l r).lst.length < 1000000) (W : World) (h : TrAt W (.node b s l r)) :
    Calls Try.prog 49 #[.pointer (some ⟨b, 0, none⟩), .int .i64 1] W fun e w' => e = .returned (.pointer (turn1 (.node b s l r)).ptr) ∧ TrAt w' (turn1 (.node b s l r)) ∧ Fr (Tr.node b s l r).blks W w' := by
  obtain ⟨q, qs, ql, qr, rfl⟩ := Tr.ht_pos (t := r) (by omega)
  have e1 : turn1 (.node b s l (.node q qs ql qr)) = .node q qs (.node b s l ql) qr := by show (if _ then _ else _) = _; rw [if_pos hi]; rfl
  rw [e1]
  refine (si_lift1 b s q qs ql qr l W h.hole h.2.2.hole h.2.2.2.1 h.2.2.2.2 h.2.1 nd hs).mono ?_
  rintro e w' ⟨rfl, ht, hf⟩
  refine ⟨rfl, ht, hf.mono ?_⟩
  intro x hx
  left
  simp only [List.mem_cons, List.not_mem_nil, or_false] at hx
  rcases hx with rfl | rfl
  · rw [Tr.blks_node]; simp
  · rw [Tr.blks_node, Tr.blks_node]; simp
theorem bal_in1 (b : Nat) (s : Sb) (l r : Tr) (hi : r.ht < l.ht) (nd : (Tr.node b s l r).blks.Nodup) (hs : (Tr.node b s l r).lst.length < 1000000) (W : World) (h : TrAt W (.node b s l r)) :
    Calls Try.prog 49 #[.pointer (some ⟨b, 0, none⟩), .int .i64 0] W fun e w' => e = .returned (.pointer (turn0 (.node b s l r)).ptr) ∧ TrAt w' (turn0 (.node b s l r)) ∧ Fr (Tr.node b s l r).blks W w' := by
  obtain ⟨q, qs, ql, qr, rfl⟩ := Tr.ht_pos (t := l) (by omega)
  have e1 : turn0 (.node b s (.node q qs ql qr) r) = .node q qs ql (.node b s qr r) := by show (if _ then _ else _) = _; rw [if_pos hi]; rfl
  rw [e1]
  refine (si_lift0 b s q qs ql qr r W h.hole h.2.1.hole h.2.1.2.1 h.2.1.2.2 h.2.2 nd hs).mono ?_
  rintro e w' ⟨rfl, ht, hf⟩
  refine ⟨rfl, ht, hf.mono ?_⟩
  intro x hx
  left
  simp only [List.mem_cons, List.not_mem_nil, or_false] at hx
  rcases hx with rfl | rfl
  · rw [Tr.blks_node]; simp
  · rw [Tr.blks_node, Tr.blks_node]; simp
theorem turn1_same {b : Nat} {s : Sb} {l r : Tr} (h : ¬ l.ht < r.ht) : turn1 (.node b s l r) = .node b s l r := by show (if _ then _ else _) = _; rw [if_neg h]
theorem turn0_same {b : Nat} {s : Sb} {l r : Tr} (h : ¬ r.ht < l.ht) : turn0 (.node b s l r) = .node b s l r := by show (if _ then _ else _) = _; rw [if_neg h]
theorem wrap_nat1 {n : Nat} (h : n < 1000000) : IntKind.i64.wrap ((n : Int) + 1) = (n : Int) + 1 := IntWalk.i64_in _ ⟨by omega, by omega⟩
theorem height_fr (t : Tr) (w : World) (h : TrAt w t) : Calls Try.prog 48 #[.pointer t.ptr] w fun e w' => e = .returned (.int .i64 t.ht) ∧ Fr [] w w' := (si_height t w h).mono fun _ _ hh => ⟨hh.1, by rw [hh.2]; exact Fr.refl _ _⟩
set_option maxHeartbeats 8000000 in
theorem si_balance (b : Nat) (s : Sb) (l r : Tr) (w : World) (hb : Hole w b s l.ptr r.ptr) (hl : TrAt w l) (hr : TrAt w r) (nd : (Tr.node b s l r).blks.Nodup) (hs : (Tr.node b s l r).lst.length < 1000000) :
    Calls Try.prog 34 #[.pointer (some ⟨b, 0, none⟩)] w fun e w' => e = .returned (.pointer (balT b s l r).ptr) ∧ TrAt w' (balT b s l r) ∧ Fr (Tr.node b s l r).blks w w' := by
  have HB := Lib.hid hb
  have HL := Lib.hid hl
  have HR := Lib.hid hr
  have ND := Lib.hid nd
  have HS := Lib.hid hs
  obtain ⟨n1, n2, n3, n4, n5⟩ := nd_node nd
  have hlenL := Tr.ht_le l
  have hlenR := Tr.ht_le r
  have hsz : l.lst.length < 1000000 ∧ r.lst.length < 1000000 := by simp only [Tr.lst, List.length_append, List.length_cons] at hs; omega
  obtain ⟨lh, hlh⟩ : ∃ lh, lh = l.ht := ⟨_, rfl⟩
  obtain ⟨rh, hrh⟩ : ∃ rh, rh = r.ht := ⟨_, rfl⟩
  have HHL := Lib.hid fun (W : World) (hW : Fr [] w W) => height_fr l W (hl.keep0 hW)
  have HHR := Lib.hid fun (W : World) (hW : Fr [] w W) => height_fr r W (hr.keep0 hW)
  rw [← hlh] at HHL
  rw [← hrh] at HHR
  have hlb : lh < 1000000 := by omega
  have hrb : rh < 1000000 := by omega
  have q1 := wrap_nat1 hlb
  have q2 := wrap_nat1 hrb
  have HLH := Lib.hid hlh
  have HRH := Lib.hid hrh
  have N1 := Lib.hid n1
  have N2 := Lib.hid n2
  have N3 := Lib.hid n3
  have N4 := Lib.hid n4
  have N5 := Lib.hid n5
  clear n1 n2 n3 n4 n5 hlenL hlenR hlh hrh hs nd hl hr
  obtain ⟨bh, bu, hb⟩ := hb
  generalize hpl : l.ptr = pl at *
  generalize hpr : r.ptr = pr at *
  have HPL := Lib.hid hpl
  have HPR := Lib.hid hpr
  clear hpl hpr
  have HBB := Lib.hid hb
  obtain ⟨_, _, _, _, c4, c5, _⟩ := nod_cells hb
  have i0 : ∀ W, (Instr.index 63 (.agg #[.pointer pl, .pointer pr]) (.int .i64 0)).run Try.prog W = .ok (.pointer pl) W := fun _ => by kernel_rfl
  have i1 : ∀ W, (Instr.index 63 (.agg #[.pointer pl, .pointer pr]) (.int .i64 1)).run Try.prog W = .ok (.pointer pr) W := fun _ => by kernel_rfl
  clear hb
  obtain ⟨P, hP⟩ : ∃ P, P = (balT b s l r).ptr := ⟨_, rfl⟩
  have HP := Lib.hid hP
  rw [← hP]
  clear hP
  go_enter Try.func34, Try.ntmps34
  go_upto_region 2 with fail
  go_loopw [9] (fun i wr => ∃ (z : Int), i = .int .i64 z ∧ (z = 0 ∨ (z = 1 ∧ ¬ rh + 1 < lh) ∨ (z = 2 ∧ ¬ rh + 1 < lh ∧ ¬ lh + 1 < rh)) ∧ Fr [] w wr) (fun i _ => 2 - (intOf i).toNat)
  case atStart => exact ⟨0, rfl, Or.inl rfl, Fr.refl _ _⟩
  case round =>
    obtain ⟨z, rfl, hj, hf⟩ := hrel
    have HF := Lib.hid hf
    have d4 := hf.cell c4 (by simp)
    have d5 := hf.cell c5 (by simp)
    clear c4 c5 hf
    rcases hj with rfl | ⟨rfl, hA⟩ | ⟨rfl, hA, hB⟩
    · have t0 : ∀ B : Bool, decide ((((rh : Nat) : Int) + 1) < ((lh : Nat) : Int)) = B → decide (rh + 1 < lh) = B := fun B h => by rw [← h]; exact decide_eq_decide.2 (by omega)
      by_cases hT : rh + 1 < lh
      · have t1 : decide ((((rh : Nat) : Int) + 1) < ((lh : Nat) : Int)) = true := by simp; omega
        have HT := Lib.hid hT
        clear t0 hT
        have D4 := fun n : After [] wr => n.cell d4 (by simp)
        have D5 := fun n : After [] wr => n.cell d5 (by simp)
        go_upto_region 4 with fail
        refine wp_region_after [] (by kernel_rfl) (by kernel_rfl) ?_
        repeat (go_big_quiet_step ((first | (go_at_call 48; with_reducible exact After.quiet (HHL.out _ (HF.out.trans (After.fr _) (by simp)))) | (go_at_call 48; with_reducible exact After.quiet (HHR.out _ (HF.out.trans (After.fr _) (by simp)))))))
        refine wpQuiet_nil ?_
        rintro _ ⟨nq, rfl⟩
        · have hf1 := HF.out.trans nq.fr (by simp)
          clear D4 D5
          have HF1 := Lib.hid hf1
          have hht : 0 < l.ht := by have h1 := HT.out; have h2 := HLH.out; omega
          obtain ⟨hb, hs, hlt, hrt, htt⟩ := Tr.ht_pos hht
          have HTT := Lib.hid htt
          obtain rfl : pl = some ⟨hb, 0, none⟩ := by rw [← HPL.out, htt]; rfl
          have htr : TrAt w (.node hb hs hlt hrt) := by rw [← htt]; exact HL.out
          have NDX : Hid ((Tr.node hb hs hlt hrt).blks.Nodup) := Lib.hid (by rw [← htt]; exact N1.out)
          have hszX : (Tr.node hb hs hlt hrt).lst.length < 1000000 := by rw [← htt]; exact hsz.1
          have HSX := Lib.hid hszX
          have HTR := Lib.hid htr
          have hxl := Tr.ht_le hlt
          have hxr := Tr.ht_le hrt
          simp only [Tr.lst, List.length_append, List.length_cons] at hszX
          obtain ⟨ylh, hylh⟩ : ∃ y, y = hlt.ht := ⟨_, rfl⟩
          obtain ⟨yrh, hyrh⟩ : ∃ y, y = hrt.ht := ⟨_, rfl⟩
          have HYL := Lib.hid fun (W : World) (hW : Fr [] w W) => height_fr hlt W (htr.2.1.keep0 hW)
          have HYR := Lib.hid fun (W : World) (hW : Fr [] w W) => height_fr hrt W (htr.2.2.keep0 hW)
          rw [← hylh] at HYL
          rw [← hyrh] at HYR
          have HYLH := Lib.hid hylh
          have HYRH := Lib.hid hyrh
          have hnod := htr.1.keep hf1 (by simp)
          obtain ⟨_, _, _, _, e4, e5, _⟩ := nod_cells hnod
          generalize hypl : hlt.ptr = ypl at *
          generalize hypr : hrt.ptr = ypr at *
          have hylb : ylh < 1000000 := by omega
          have hyrb : yrh < 1000000 := by omega
          clear hht htt htr hszX hxl hxr hylh hyrh hnod hypl hypr d4 d5 t1 hf1
          have E4 := fun n : After [] nq.now => n.cell e4 (by simp)
          have E5 := fun n : After [] nq.now => n.cell e5 (by simp)
          clear e4 e5
          by_cases hI : ylh < yrh
          · have t1 : decide (((ylh : Nat) : Int) < ((yrh : Nat) : Int)) = true := by simp; omega
            have t2 : decide (ylh < yrh) = true := by simp; omega
            have HI := Lib.hid (show hlt.ht < hrt.ht by rw [← HYLH.out, ← HYRH.out]; exact hI)
            clear hI
            go_upto_region 5 with fail
            refine wp_region_after [] (by kernel_rfl) (by kernel_rfl) ?_
            repeat (go_big_quiet_step ((first | (go_at_call 48; with_reducible exact After.quiet (HYL.out _ (HF1.out.trans (After.fr _) (by simp)))) | (go_at_call 48; with_reducible exact After.quiet (HYR.out _ (HF1.out.trans (After.fr _) (by simp)))))))
            refine wpQuiet_nil ?_
            rintro _ ⟨nr, rfl⟩
            have HF2 := Lib.hid (HF1.out.trans nr.fr (by simp))
            have HIN : Hid (∀ W, Fr [] w W → Calls Try.prog 49 #[.pointer (some ⟨hb, 0, none⟩), .int .i64 1] W fun e w' => e = .returned (.pointer (turn1 l).ptr) ∧ TrAt w' (turn1 l) ∧ Fr l.blks W w') := Lib.hid fun W hW => by
              have := bal_in0 hb hs hlt hrt HI.out NDX.out HSX.out W (HTR.out.keep0 hW)
              rw [← HTT.out] at this
              exact this
            obtain ⟨tp, htp⟩ : ∃ tp, tp = (turn1 l).ptr := ⟨_, rfl⟩
            have HEND : Hid (∀ W, Fr (Tr.node b s l r).blks w W → Hole W b s tp pr → TrAt W (turn1 l) → TrAt W r → Calls Try.prog 49 #[.pointer (some ⟨b, 0, none⟩), .int .i64 0] W fun e w' => e = .returned (.pointer P) ∧ TrAt w' (balT b s l r) ∧ Fr (Tr.node b s l r).blks w w') := Lib.hid fun W h1 h2 h3 h4 => by
              rw [HP.out]
              exact bal_end0 b s l r (by have := HT.out; have h1 := HLH.out; have h2 := HRH.out; omega) ND.out HS.out w W h1 (by rw [← htp, HPR.out]; exact h2) h3 h4
            rw [← htp] at HIN
            have HTP := Lib.hid htp
            clear htp t1 t2 E4 E5
            go_upto_region 6 with fail
            go_region_held_law (fun w' => True) (trivial) ((go_at_call 49; refine (HIN.out _ (HF2.out.trans (Fr.refl [] nr.now).drew (by simp))).mono ?_; rintro e w1 ⟨rfl, ht1, hf1⟩; have HT1 := Lib.hid ht1; have HFL := Lib.hid (((HF2.out.trans (Fr.refl [] nr.now).drew (by simp)).mono (by simp)).trans hf1 (fun x hx => Or.inl hx)); have hb1 := NodB.keep HBB.out HFL.out N3.out; obtain ⟨_, _, _, _, x4, x5, _, _, _, xf⟩ := nod_cells hb1; have xf4 := xf 4; have hlt1 := hb1.lt; have HB1 := Lib.hid hb1; clear hb1 ht1 hf1 xf))
            have hf3 : Fr (Tr.node b s l r).blks w (w1.setCell ⟨b, 4, none⟩ (.pointer tp)) := (fr_set1 (HFL.out.mono (by intro k hk; left; rw [Tr.blks_node]; simp [hk])) (by rw [Tr.blks_node]; simp) _ _)
            have hb3 : Hole (w1.setCell ⟨b, 4, none⟩ (.pointer tp)) b s tp pr := ⟨_, _, nod_set4 HB1.out tp⟩
            have ht3 : TrAt (w1.setCell ⟨b, 4, none⟩ (.pointer tp)) (turn1 l) := TrAt.keep (fr_set1 (Fr.refl [b] w1) (by simp) _ _) HT1.out (by intro k hk; rw [turn1_blks] at hk; simp; rintro rfl; exact N3.out hk)
            have ho3 : TrAt (w1.setCell ⟨b, 4, none⟩ (.pointer tp)) r := TrAt.keep (fr_set1 (Fr.refl [b] w1) (by simp) _ _) (TrAt.keep HFL.out HR.out (by intro k hk hk2; exact N5.out k hk2 hk)) (by intro k hk; simp; rintro rfl; exact N4.out hk)
            have C := Lib.hid (HEND.out _ hf3 hb3 ht3 ho3)
            clear hf3 hb3 ht3 ho3 x4 x5 xf4 hlt1
            generalize w1.setCell ⟨b, 4, none⟩ (.pointer tp) = w3 at *
            go_wp2_with (go_at_call 49; refine C.out.mono ?_; rintro e w4 ⟨rfl, ht4, hf4⟩; have HT4 := Lib.hid ht4; have HF4 := Lib.hid hf4; clear ht4 hf4)
            go_ret
            exact ⟨rfl, HT4.out, HF4.out⟩
          · have t1 : decide (((ylh : Nat) : Int) < ((yrh : Nat) : Int)) = false := by simp; omega
            have t2 : decide (ylh < yrh) = false := by simp; omega
            have HI := Lib.hid (show ¬ hlt.ht < hrt.ht by rw [← HYLH.out, ← HYRH.out]; exact hI)
            clear hI
            go_upto_region 5 with fail
            refine wp_region_after [] (by kernel_rfl) (by kernel_rfl) ?_
            repeat (go_big_quiet_step ((first | (go_at_call 48; with_reducible exact After.quiet (HYL.out _ (HF1.out.trans (After.fr _) (by simp)))) | (go_at_call 48; with_reducible exact After.quiet (HYR.out _ (HF1.out.trans (After.fr _) (by simp)))))))
            refine wpQuiet_nil ?_
            rintro _ ⟨nr, rfl⟩
            have HF2 := Lib.hid (HF1.out.trans nr.fr (by simp))
            have C : Hid (Calls Try.prog 49 #[.pointer (some ⟨b, 0, none⟩), .int .i64 0] nr.now fun e w' => e = .returned (.pointer P) ∧ TrAt w' (balT b s l r) ∧ Fr (Tr.node b s l r).blks w w') := Lib.hid (by
              rw [HP.out]
              have e1 : turn1 l = l := by rw [HTT.out]; exact turn1_same HI.out
              exact bal_end0 b s l r (by have := HT.out; have h1 := HLH.out; have h2 := HRH.out; omega) ND.out HS.out w nr.now (HF2.out.mono (by simp)) (by rw [e1, HPL.out, HPR.out]; exact Hole.keep ⟨_, _, HBB.out⟩ HF2.out (by simp)) (by rw [e1]; exact HL.out.keep0 HF2.out) (HR.out.keep0 HF2.out))
            clear t1 t2 E4 E5
            go_wp2_with (go_at_call 49; refine C.out.mono ?_; rintro e w4 ⟨rfl, ht4, hf4⟩; have HT4 := Lib.hid ht4; have HF4 := Lib.hid hf4; clear ht4 hf4)
            go_ret
            exact ⟨rfl, HT4.out, HF4.out⟩
      · have t1 : decide ((((rh : Nat) : Int) + 1) < ((lh : Nat) : Int)) = false := by simp; omega
        have D4 := fun n : After [] wr => n.cell d4 (by simp)
        have D5 := fun n : After [] wr => n.cell d5 (by simp)
        go_upto_region 4 with fail
        refine wp_region_after [] (by kernel_rfl) (by kernel_rfl) ?_
        repeat (go_big_quiet_step ((first | (go_at_call 48; with_reducible exact After.quiet (HHL.out _ (HF.out.trans (After.fr _) (by simp)))) | (go_at_call 48; with_reducible exact After.quiet (HHR.out _ (HF.out.trans (After.fr _) (by simp)))))))
        refine wpQuiet_nil ?_
        rintro _ ⟨nq, rfl⟩
        clear D4 D5
        go_wp2_with fail
        go_roundw
        case rel => exact ⟨1, rfl, by exact Or.inr (Or.inl ⟨rfl, hT⟩), HF.out.trans nq.fr (by simp)⟩
        case measure => simp [intOf]
    · have HAA := Lib.hid hA
      have t0 : ∀ B : Bool, decide ((((lh : Nat) : Int) + 1) < ((rh : Nat) : Int)) = B → decide (lh + 1 < rh) = B := fun B h => by rw [← h]; exact decide_eq_decide.2 (by omega)
      by_cases hT : lh + 1 < rh
      · have t1 : decide ((((lh : Nat) : Int) + 1) < ((rh : Nat) : Int)) = true := by simp; omega
        have HT := Lib.hid hT
        clear t0 hT
        have D4 := fun n : After [] wr => n.cell d4 (by simp)
        have D5 := fun n : After [] wr => n.cell d5 (by simp)
        go_upto_region 4 with fail
        refine wp_region_after [] (by kernel_rfl) (by kernel_rfl) ?_
        repeat (go_big_quiet_step ((first | (go_at_call 48; with_reducible exact After.quiet (HHL.out _ (HF.out.trans (After.fr _) (by simp)))) | (go_at_call 48; with_reducible exact After.quiet (HHR.out _ (HF.out.trans (After.fr _) (by simp)))))))
        refine wpQuiet_nil ?_
        rintro _ ⟨nq, rfl⟩
        · have hf1 := HF.out.trans nq.fr (by simp)
          clear D4 D5
          have HF1 := Lib.hid hf1
          have hht : 0 < r.ht := by have h1 := HT.out; have h2 := HRH.out; omega
          obtain ⟨hb, hs, hlt, hrt, htt⟩ := Tr.ht_pos hht
          have HTT := Lib.hid htt
          obtain rfl : pr = some ⟨hb, 0, none⟩ := by rw [← HPR.out, htt]; rfl
          have htr : TrAt w (.node hb hs hlt hrt) := by rw [← htt]; exact HR.out
          have NDX : Hid ((Tr.node hb hs hlt hrt).blks.Nodup) := Lib.hid (by rw [← htt]; exact N2.out)
          have hszX : (Tr.node hb hs hlt hrt).lst.length < 1000000 := by rw [← htt]; exact hsz.2
          have HSX := Lib.hid hszX
          have HTR := Lib.hid htr
          have hxl := Tr.ht_le hlt
          have hxr := Tr.ht_le hrt
          simp only [Tr.lst, List.length_append, List.length_cons] at hszX
          obtain ⟨ylh, hylh⟩ : ∃ y, y = hlt.ht := ⟨_, rfl⟩
          obtain ⟨yrh, hyrh⟩ : ∃ y, y = hrt.ht := ⟨_, rfl⟩
          have HYL := Lib.hid fun (W : World) (hW : Fr [] w W) => height_fr hlt W (htr.2.1.keep0 hW)
          have HYR := Lib.hid fun (W : World) (hW : Fr [] w W) => height_fr hrt W (htr.2.2.keep0 hW)
          rw [← hylh] at HYL
          rw [← hyrh] at HYR
          have HYLH := Lib.hid hylh
          have HYRH := Lib.hid hyrh
          have hnod := htr.1.keep hf1 (by simp)
          obtain ⟨_, _, _, _, e4, e5, _⟩ := nod_cells hnod
          generalize hypl : hlt.ptr = ypl at *
          generalize hypr : hrt.ptr = ypr at *
          have hylb : ylh < 1000000 := by omega
          have hyrb : yrh < 1000000 := by omega
          clear hht htt htr hszX hxl hxr hylh hyrh hnod hypl hypr d4 d5 t1 hf1
          have E4 := fun n : After [] nq.now => n.cell e4 (by simp)
          have E5 := fun n : After [] nq.now => n.cell e5 (by simp)
          clear e4 e5
          by_cases hI : yrh < ylh
          · have t1 : decide (((yrh : Nat) : Int) < ((ylh : Nat) : Int)) = true := by simp; omega
            have t2 : decide (yrh < ylh) = true := by simp; omega
            have HI := Lib.hid (show hrt.ht < hlt.ht by rw [← HYLH.out, ← HYRH.out]; exact hI)
            clear hI
            go_upto_region 5 with fail
            refine wp_region_after [] (by kernel_rfl) (by kernel_rfl) ?_
            repeat (go_big_quiet_step ((first | (go_at_call 48; with_reducible exact After.quiet (HYL.out _ (HF1.out.trans (After.fr _) (by simp)))) | (go_at_call 48; with_reducible exact After.quiet (HYR.out _ (HF1.out.trans (After.fr _) (by simp)))))))
            refine wpQuiet_nil ?_
            rintro _ ⟨nr, rfl⟩
            have HF2 := Lib.hid (HF1.out.trans nr.fr (by simp))
            have HIN : Hid (∀ W, Fr [] w W → Calls Try.prog 49 #[.pointer (some ⟨hb, 0, none⟩), .int .i64 0] W fun e w' => e = .returned (.pointer (turn0 r).ptr) ∧ TrAt w' (turn0 r) ∧ Fr r.blks W w') := Lib.hid fun W hW => by
              have := bal_in1 hb hs hlt hrt HI.out NDX.out HSX.out W (HTR.out.keep0 hW)
              rw [← HTT.out] at this
              exact this
            obtain ⟨tp, htp⟩ : ∃ tp, tp = (turn0 r).ptr := ⟨_, rfl⟩
            have HEND : Hid (∀ W, Fr (Tr.node b s l r).blks w W → Hole W b s pl tp → TrAt W (turn0 r) → TrAt W l → Calls Try.prog 49 #[.pointer (some ⟨b, 0, none⟩), .int .i64 1] W fun e w' => e = .returned (.pointer P) ∧ TrAt w' (balT b s l r) ∧ Fr (Tr.node b s l r).blks w w') := Lib.hid fun W h1 h2 h3 h4 => by
              rw [HP.out]
              exact bal_end1 b s l r (by have := HAA.out; have h1 := HLH.out; have h2 := HRH.out; omega) (by have := HT.out; have h1 := HLH.out; have h2 := HRH.out; omega) ND.out HS.out w W h1 (by rw [← htp, HPL.out]; exact h2) h3 h4
            rw [← htp] at HIN
            have HTP := Lib.hid htp
            clear htp t1 t2 E4 E5
            go_upto_region 6 with fail
            go_region_held_law (fun w' => True) (trivial) ((go_at_call 49; refine (HIN.out _ (HF2.out.trans (Fr.refl [] nr.now).drew (by simp))).mono ?_; rintro e w1 ⟨rfl, ht1, hf1⟩; have HT1 := Lib.hid ht1; have HFL := Lib.hid (((HF2.out.trans (Fr.refl [] nr.now).drew (by simp)).mono (by simp)).trans hf1 (fun x hx => Or.inl hx)); have hb1 := NodB.keep HBB.out HFL.out N4.out; obtain ⟨_, _, _, _, x4, x5, _, _, _, xf⟩ := nod_cells hb1; have xf4 := xf 5; have hlt1 := hb1.lt; have HB1 := Lib.hid hb1; clear hb1 ht1 hf1 xf))
            have hf3 : Fr (Tr.node b s l r).blks w (w1.setCell ⟨b, 5, none⟩ (.pointer tp)) := (fr_set1 (HFL.out.mono (by intro k hk; left; rw [Tr.blks_node]; simp [hk])) (by rw [Tr.blks_node]; simp) _ _)
            have hb3 : Hole (w1.setCell ⟨b, 5, none⟩ (.pointer tp)) b s pl tp := ⟨_, _, nod_set5 HB1.out tp⟩
            have ht3 : TrAt (w1.setCell ⟨b, 5, none⟩ (.pointer tp)) (turn0 r) := TrAt.keep (fr_set1 (Fr.refl [b] w1) (by simp) _ _) HT1.out (by intro k hk; rw [turn0_blks] at hk; simp; rintro rfl; exact N4.out hk)
            have ho3 : TrAt (w1.setCell ⟨b, 5, none⟩ (.pointer tp)) l := TrAt.keep (fr_set1 (Fr.refl [b] w1) (by simp) _ _) (TrAt.keep HFL.out HL.out (by intro k hk hk2; exact N5.out k hk hk2)) (by intro k hk; simp; rintro rfl; exact N3.out hk)
            have C := Lib.hid (HEND.out _ hf3 hb3 ht3 ho3)
            clear hf3 hb3 ht3 ho3 x4 x5 xf4 hlt1
            generalize w1.setCell ⟨b, 5, none⟩ (.pointer tp) = w3 at *
            go_wp2_with (go_at_call 49; refine C.out.mono ?_; rintro e w4 ⟨rfl, ht4, hf4⟩; have HT4 := Lib.hid ht4; have HF4 := Lib.hid hf4; clear ht4 hf4)
            go_ret
            exact ⟨rfl, HT4.out, HF4.out⟩
          · have t1 : decide (((yrh : Nat) : Int) < ((ylh : Nat) : Int)) = false := by simp; omega
            have t2 : decide (yrh < ylh) = false := by simp; omega
            have HI := Lib.hid (show ¬ hrt.ht < hlt.ht by rw [← HYLH.out, ← HYRH.out]; exact hI)
            clear hI
            go_upto_region 5 with fail
            refine wp_region_after [] (by kernel_rfl) (by kernel_rfl) ?_
            repeat (go_big_quiet_step ((first | (go_at_call 48; with_reducible exact After.quiet (HYL.out _ (HF1.out.trans (After.fr _) (by simp)))) | (go_at_call 48; with_reducible exact After.quiet (HYR.out _ (HF1.out.trans (After.fr _) (by simp)))))))
            refine wpQuiet_nil ?_
            rintro _ ⟨nr, rfl⟩
            have HF2 := Lib.hid (HF1.out.trans nr.fr (by simp))
            have C : Hid (Calls Try.prog 49 #[.pointer (some ⟨b, 0, none⟩), .int .i64 1] nr.now fun e w' => e = .returned (.pointer P) ∧ TrAt w' (balT b s l r) ∧ Fr (Tr.node b s l r).blks w w') := Lib.hid (by
              rw [HP.out]
              have e1 : turn0 r = r := by rw [HTT.out]; exact turn0_same HI.out
              exact bal_end1 b s l r (by have := HAA.out; have h1 := HLH.out; have h2 := HRH.out; omega) (by have := HT.out; have h1 := HLH.out; have h2 := HRH.out; omega) ND.out HS.out w nr.now (HF2.out.mono (by simp)) (by rw [e1, HPL.out, HPR.out]; exact Hole.keep ⟨_, _, HBB.out⟩ HF2.out (by simp)) (by rw [e1]; exact HR.out.keep0 HF2.out) (HL.out.keep0 HF2.out))
            clear t1 t2 E4 E5
            go_wp2_with (go_at_call 49; refine C.out.mono ?_; rintro e w4 ⟨rfl, ht4, hf4⟩; have HT4 := Lib.hid ht4; have HF4 := Lib.hid hf4; clear ht4 hf4)
            go_ret
            exact ⟨rfl, HT4.out, HF4.out⟩
      · have t1 : decide ((((lh : Nat) : Int) + 1) < ((rh : Nat) : Int)) = false := by simp; omega
        have D4 := fun n : After [] wr => n.cell d4 (by simp)
        have D5 := fun n : After [] wr => n.cell d5 (by simp)
        go_upto_region 4 with fail
        refine wp_region_after [] (by kernel_rfl) (by kernel_rfl) ?_
        repeat (go_big_quiet_step ((first | (go_at_call 48; with_reducible exact After.quiet (HHL.out _ (HF.out.trans (After.fr _) (by simp)))) | (go_at_call 48; with_reducible exact After.quiet (HHR.out _ (HF.out.trans (After.fr _) (by simp)))))))
        refine wpQuiet_nil ?_
        rintro _ ⟨nq, rfl⟩
        clear D4 D5
        go_wp2_with fail
        go_roundw
        case rel => exact ⟨2, rfl, by exact Or.inr (Or.inr ⟨rfl, hA, hT⟩), HF.out.trans nq.fr (by simp)⟩
        case measure => simp [intOf]
    · have e1 : balT b s l r = .node b s l r := by unfold balT; rw [if_neg (by have h1 := HLH.out; have h2 := HRH.out; omega), if_neg (by have h1 := HLH.out; have h2 := HRH.out; omega)]
      have E1 := Lib.hid e1
      rw [e1] at HP
      have hP2 : P = some ⟨b, 0, none⟩ := HP.out
      have C := Lib.hid (si_measure b s l r wr (by rw [HPL.out, HPR.out]; exact Hole.keep ⟨_, _, HBB.out⟩ HF.out (by simp)) (HL.out.keep0 HF.out) (HR.out.keep0 HF.out) N3.out N4.out (by have := HS.out; simp only [Tr.lst, List.length_append, List.length_cons] at this; omega))
      subst hP2
      clear e1 hA hB
      go_wp2_with (go_at_call 50; refine C.out.mono ?_; rintro e w1 ⟨rfl, hb1, hf1⟩; have HB1 := Lib.hid hb1; have HF1 := Lib.hid hf1; clear hb1 hf1)
      go_ret
      rw [E1.out]
      refine ⟨rfl, ⟨HB1.out, ?_, ?_⟩, (HF.out.mono (T := (Tr.node b s l r).blks) (by simp)).trans HF1.out (by intro k hk; left; simp at hk; subst hk; rw [Tr.blks_node]; simp)⟩
      · exact TrAt.keep HF1.out (HL.out.keep0 HF.out) (by intro k hk; simp; rintro rfl; exact N3.out hk)
      · exact TrAt.keep HF1.out (HR.out.keep0 HF.out) (by intro k hk; simp; rintro rfl; exact N4.out hk)
end Go.Proofs.Ytcieokfjkfpajaa
