/- In whatever turn watches come, the same are stabbed: for every list of watches, every key and number. No condition. -/
import Derived.Test.YtcieokfjkfpajaaSiEq
import Derived.Test.YtcieokfjkfpajaaSiAwake
import Derived.Test.YtcieokfjkfpajaaSiLaw
import Derived.Deep.DeepCutAuto
namespace Go.Proofs.Ytcieokfjkfpajaa.lawSubidxTurns
open Go.ChangeShapes Go.WideShapes Go.ChangeAt Go.RowKit Go.Deep Go.ChangeMaps
set_option linter.unusedVariables false
set_option linter.unusedSimpArgs false

set_option maxRecDepth 100000 in
set_option maxHeartbeats 8000000 in
theorem walk (lv : Value) (l : List Sb) (k : ByteArray) (b8 : Int) (w : World) (hl : SbArg w lv l) (hb : (Lit.int .u8 b8).wf = true) :
    Calls Try.prog 5 #[lv, .string k, .int .u8 b8] w fun e w' => e = .returned (.bool true) ∧ Below w.heap.size w w' := by
  have hm8 : 0 ≤ b8 ∧ b8 ≤ 255 := by simpa [Lit.wf, IntKind.min, IntKind.max, IntKind.signed, IntKind.bits] using hb
  obtain ⟨b, hbN, hb2⟩ : ∃ b : Nat, b8 = (b : Int) ∧ b ≤ 255 := ⟨b8.toNat, by omega, by omega⟩
  subst hbN
  obtain ⟨sl, cl, rfl, lc, mc⟩ := hl.1.form
  unfold maxLen at mc
  have HAW := Lib.hid fun W => si_awake W
  have HL := Lib.hid hl.1
  have HWF := Lib.hid hl.2
  have HM := Lib.hid fun s W => si_made s W
  have HN := Lib.hid fun W => ix_new W
  have HRE := Lib.hid fun (s : Sb) W => rempty_any s.f s.t W
  clear hl hb hm8
  go_enter Try.func5, Try.ntmps5
  go_wp2_with (go_at_call 9; refine (HAW.out _).mono ?_; rintro e w1 ⟨rfl, hf⟩; refine go_stop ?_)
  have HF1 := Lib.hid hf
  clear hf HAW
  unfold Stop
  by_cases h40 : 40 < l.length
  · have t1 : decide (40 < l.length) = true := by simpa using h40
    have t2 : decide ((40 : Int) < (l.length : Int)) = true := by simp; omega
    go_wp2_with fail
    go_ret
    exact ⟨rfl, HF1.out.below (Nat.le_refl _) (by simp)⟩
  have t1 : decide (40 < l.length) = false := by simpa using h40
  have t2 : decide ((40 : Int) < (l.length : Int)) = false := by simp; omega
  go_wp2_with fail
  clear t1 t2
  go_loopw [8] (fun iv wr => ∃ (j : Nat), iv = .int .i64 j ∧ j ≤ l.length ∧ Uniq l j ∧ Fr [] w wr) (fun i _ => l.length - (intOf i).toNat)
  case atStart => exact ⟨0, rfl, Nat.zero_le _, (by intro i m x y h; omega), HF1.out⟩
  case round =>
    obtain ⟨j, rfl, hj, hu, hf⟩ := hrel
    have HU := Lib.hid hu
    have HF := Lib.hid hf
    clear hu hf
    by_cases h : j < l.length
    · have t1 : decide (j < l.length) = true := by simpa using h
      obtain ⟨x, hx⟩ : ∃ x, l[j]? = some x := ⟨_, List.getElem?_eq_getElem h⟩
      have HXJ := Lib.hid hx
      clear hx
      go_wp2_with fail
      go_loopw [9] (fun iv wq => ∃ (m : Nat), iv = .int .i64 m ∧ m ≤ j ∧ (∀ (q : Nat) (y : Sb), q < m → l[q]? = some y → x.id ≠ y.id) ∧ Fr [] w wq) (fun i _ => j - (intOf i).toNat)
      case atStart => exact ⟨0, rfl, Nat.zero_le _, (by intro q y h; omega), HF.out⟩
      case round =>
        obtain ⟨m, rfl, hm, hne, hf⟩ := hrel
        have HNE := Lib.hid hne
        have HFQ := Lib.hid hf
        clear hne hf
        by_cases h2 : m < j
        · have t2 : decide (m < j) = true := by simpa using h2
          have t3 : decide ((m : Int) < (j : Int)) = true := by simp; omega
          obtain ⟨y, hy⟩ : ∃ y, l[m]? = some y := ⟨_, List.getElem?_eq_getElem (by omega)⟩
          obtain ⟨g, off, d1, e1, _, l1, k1⟩ := SbIn.here HL.out (by omega)
          simp only [Value.slice.injEq] at e1
          obtain ⟨rfl, _, rfl⟩ := e1
          have a0 := HFQ.out.cell (k1 j x HXJ.out).c0 (by simp)
          have b0 := HFQ.out.cell (k1 m y hy).c0 (by simp)
          have HYM := Lib.hid hy
          have A0 := fun n : After [] wr => n.cell a0 (by simp)
          have B0 := fun n : After [] wr => n.cell b0 (by simp)
          have hml : m < l.length := by omega
          clear k1 hy a0 b0
          by_cases hxy : x.id = y.id
          all_goals
            first | (have t4 : (x.id == y.id) = true := by simpa using hxy) | (have t4 : (x.id == y.id) = false := by simpa using hxy)
            have HXY := Lib.hid hxy
            clear hxy
            go_upto_region 10 with fail
            refine wp_region_after [] (by kernel_rfl) (by kernel_rfl) ?_
            repeat (go_big_quiet_step (fail))
            refine wpQuiet_nil ?_
            rintro _ ⟨nq, rfl⟩
            have HNQ := Lib.hid (HFQ.out.trans nq.fr (by simp))
            clear A0 B0
          · go_wp2_with fail
            go_ret
            exact ⟨rfl, HNQ.out.below (Nat.le_refl _) (by simp)⟩
          · go_wp2_with fail
            go_roundw
            case rel =>
              refine ⟨m + 1, by go_num, by omega, ?_, HNQ.out⟩
              intro q z hq hz
              by_cases hqm : q = m
              · subst hqm
                have h9 := HYM.out
                rw [hz] at h9
                cases h9
                exact HXY.out
              · exact HNE.out q z (by omega) hz
            case measure => simp [intOf]; omega
        · have t2 : decide (m < j) = false := by simpa using h2
          have t3 : decide ((m : Int) < (j : Int)) = false := by simp; omega
          go_wp2_with fail
          go_roundw
          case rel =>
            refine ⟨j + 1, by go_num, by omega, ?_, HFQ.out⟩
            intro i q x2 y hi hq hx2 hy
            by_cases hij : i = j
            · subst hij
              have h9 := HXJ.out
              rw [hx2] at h9
              cases h9
              exact HNE.out q y (by omega) hy
            · exact HU.out i q x2 y (by omega) hq hx2 hy
          case measure => simp [intOf]; omega
    · have t1 : decide (j < l.length) = false := by simpa using h
      have huniq : Uniq l l.length := by have := HU.out; rw [show j = l.length by omega] at this; exact this
      have HUQ := Lib.hid huniq
      clear huniq HU
      go_wp2_with (go_at_call 10; refine (HN.out _).mono ?_; rintro e w2 ⟨p1, S1, rfl, hx, hf, hge⟩; refine go_stop ?_)
      have HX1 := Lib.hid hx
      have HF2 := Lib.hid (HF.out.trans hf (by simp))
      have HG1 : Hid (∀ k ∈ S1, w.heap.size ≤ k) := Lib.hid (fun k hk => Nat.le_trans HF.out.size (hge k hk))
      clear hx hf hge t1 h hj
      unfold Stop
      go_wp2_with (go_at_call 10; refine (HN.out _).mono ?_; rintro e w3 ⟨p2, S2, rfl, hx, hf, hge⟩; refine go_stop ?_)
      have HX2 := Lib.hid hx
      have HY1 := Lib.hid (HX1.out.keep0 hf)
      have HF3 := Lib.hid (HF2.out.trans hf (by simp))
      have HG2 : Hid (∀ k ∈ S2, w.heap.size ≤ k) := Lib.hid (fun k hk => Nat.le_trans HF2.out.size (hge k hk))
      have HD : Hid (∀ k ∈ S1, k ∉ S2) := Lib.hid (fun k hk hk2 => by have := HX1.out.all_lt k hk; have := hge k hk2; omega)
      clear hx hf hge
      unfold Stop
      go_wp2_with fail
      go_loopw [12] (fun iv wr => ∃ (j : Nat) (T1 T2 : List Nat) (LA LB : List Sb), iv = .int .i64 j ∧ j ≤ l.length ∧ Ix wr p1 T1 j LA ∧ Ix wr p2 T2 j LB ∧ (∀ k ∈ T1, w.heap.size ≤ k) ∧ (∀ k ∈ T2, w.heap.size ≤ k) ∧ (∀ k ∈ T1, k ∉ T2) ∧ Has l id j LA ∧ Has l (idxT l.length b) j LB ∧ Fr [] w wr) (fun i _ => l.length - (intOf i).toNat)
      case atStart => exact ⟨0, S1, S2, [], [], rfl, Nat.zero_le _, HY1.out, HX2.out, HG1.out, HG2.out, HD.out, Has.zero _ _, Has.zero _ _, HF3.out⟩
      case round =>
        obtain ⟨j, T1, T2, LA, LB, rfl, hj, hx1, hx2, hg1, hg2, hd, ha, hb, hf⟩ := hrel
        have HA := Lib.hid ha
        have HB := Lib.hid hb
        have HZ1 := Lib.hid hx1
        have HZ2 := Lib.hid hx2
        have HK1 := Lib.hid hg1
        have HK2 := Lib.hid hg2
        have HDD := Lib.hid hd
        have HFJ := Lib.hid hf
        clear ha hb hx1 hx2 hg1 hg2 hd hf
        by_cases h : j < l.length
        · have t1 : decide (j < l.length) = true := by simpa using h
          have hn0 : 0 < l.length := by omega
          obtain ⟨x, hx⟩ : ∃ x, l[j]? = some x := ⟨_, List.getElem?_eq_getElem h⟩
          have hit : idxT l.length b j < l.length := idxT_lt hn0
          obtain ⟨y, hy⟩ : ∃ y, l[idxT l.length b j]? = some y := ⟨_, List.getElem?_eq_getElem hit⟩
          obtain ⟨it, hitd⟩ : ∃ it, it = idxT l.length b j := ⟨_, rfl⟩
          have hidx : ((l.length : Int) - 1 - (((j + b) % l.length : Nat) : Int)) = (it : Int) := by
            rw [hitd]; unfold idxT
            have := Nat.mod_lt (j + b) hn0
            omega
          have hml := Nat.mod_lt (j + b) hn0
          have q1 : IntKind.i64.wrap ((l.length : Int) - 1) = (l.length : Int) - 1 := IntWalk.i64_in _ ⟨by omega, by omega⟩
          have q2 : IntKind.i64.wrap (b : Int) = (b : Int) := IntWalk.i64_in _ ⟨by omega, by omega⟩
          have q3 : IntKind.i64.wrap ((j : Int) + (b : Int)) = (j : Int) + (b : Int) := IntWalk.i64_in _ ⟨by omega, by omega⟩
          have hmod : Int.tmod ((j : Int) + (b : Int)) (l.length : Int) = (((j + b) % l.length : Nat) : Int) := by
            rw [Int.tmod_eq_emod_of_nonneg (by omega), Int.natCast_emod, Int.natCast_add]
          have q4 : IntKind.i64.wrap ((l.length : Int) - 1 - (((j + b) % l.length : Nat) : Int)) = (it : Int) := by rw [hidx, IntWalk.i64_in _ ⟨by omega, by omega⟩]
          have hcast : ((j : Int) + (b : Int)) % (l.length : Int) = (((j + b) % l.length : Nat) : Int) := by rw [Int.natCast_emod, Int.natCast_add]
          have q5 : wrap64 ((l.length : Int) - 1 - ((j : Int) + (b : Int)) % (l.length : Int)) = (it : Int) := by rw [hcast, hidx, IntWalk.wrap64_in _ ⟨by omega, by omega⟩]
          clear hcast
          rw [← hitd] at hy hit
          obtain ⟨g, off, d1, e1, _, l1, k1⟩ := SbIn.here HL.out (by omega)
          simp only [Value.slice.injEq] at e1
          obtain ⟨rfl, _, rfl⟩ := e1
          have HCX := Lib.hid (k1 j x hx)
          have HCY := Lib.hid (k1 it y hy)
          have hwx := HWF.out x (List.mem_of_getElem? hx)
          have hwy := HWF.out y (List.mem_of_getElem? hy)
          have CA := Lib.hid fun W (hW : Fr [] wr W) => ix_add (HZ1.out.keep0 hW) (by omega) x hwx
          have CB := Lib.hid fun W (hW : Ix W p2 T2 j LB) => ix_add hW (by omega) y hwy
          have hA2 := HA.out.step HUQ.out (fun m hm e => by simp at e; omega) (x := x) hx
          have hB2 := HB.out.step HUQ.out (fun m hm => idxT_inj hm h) (x := y) (by rw [← hitd]; exact hy)
          have HA2 := Lib.hid hA2
          have HB2 := Lib.hid hB2
          have hno := HA.out.no HUQ.out (fun m hm e => by simp at e; omega) (x := x) hx
          have HMX := Lib.hid fun W => HM.out x W
          have HMY := Lib.hid fun W => HM.out y W
          have HEX := Lib.hid fun W => HRE.out x W
          obtain ⟨E, hE⟩ : ∃ E, E = addE LA x := ⟨_, rfl⟩
          have hE2 : (E == 0) = !(emptyB x.f.toList x.t.toList) := by
            rw [hE]
            cases he : emptyB x.f.toList x.t.toList with
            | true => rw [(addE_empty he).1]; rfl
            | false => rw [(addE_ok he hno).1]; rfl
          rw [← hE] at CA
          generalize addL LA x = LA2 at *
          generalize addL LB y = LB2 at *
          generalize addE LB y = E2 at *
          generalize emptyB x.f.toList x.t.toList = EM at *
          unfold Sb.val at *
          obtain ⟨x0, x1, x2, x3⟩ := HCX.out.keep HFJ.out (by simp)
          clear k1 hx hy hwx hwy hA2 hB2 hno hE hitd hidx
          have HE2 := Lib.hid hE2
          clear hE2
          go_wp2_with (go_at_call 16; refine (HMX.out _).mono ?_; rintro e w21 ⟨rfl, hf⟩; refine go_stop ?_)
          have HFa := Lib.hid hf
          clear hf x0 x1 x2 x3
          unfold Stop
          go_wp2_with (go_at_call 19; refine (CA.out _ HFa.out).mono ?_; rintro e w22 ⟨rfl, T3, hx, hf, hg, hs⟩; refine go_stop ?_)
          have HZ3 := Lib.hid hx
          have hz2b := HZ2.out.keep0 HFa.out
          have HZ2b := Lib.hid (hz2b.keep hf (fun k hk hk1 => HDD.out k hk1 hk))
          have HD3 : Hid (∀ k ∈ T3, k ∉ T2) := Lib.hid (fun k hk hk2 => by
            rcases hg k hk with h1 | h1
            · exact HDD.out k h1 hk2
            · have := hz2b.all_lt k hk2; omega)
          have HK3 := Lib.hid (Grow.ge hg (n := w.heap.size) (Nat.le_trans HFJ.out.size HFa.out.size) HK1.out)
          have HF22 := Lib.hid ((HFJ.out.trans HFa.out (by simp)).trans hf (fun k hk => Or.inr (HK1.out k hk)))
          obtain ⟨y0, y1, y2, y3⟩ := HCY.out.keep HF22.out (by simp)
          clear hx hf hg hs hz2b CA
          unfold Stop
          go_wp2_with (go_at_call 16; refine (HMY.out _).mono ?_; rintro e w23 ⟨rfl, hf⟩; refine go_stop ?_)
          have HFb := Lib.hid hf
          clear hf y0 y1 y2 y3
          unfold Stop
          go_wp2_with (go_at_call 19; refine (CB.out _ (HZ2b.out.keep0 HFb.out)).mono ?_; rintro e w24 ⟨rfl, T4, hx, hf, hg, hs⟩; refine go_stop ?_)
          have HZ4 := Lib.hid hx
          have hz3b := HZ3.out.keep0 HFb.out
          have HZ3b := Lib.hid (hz3b.keep hf HD3.out)
          have HD4 : Hid (∀ k ∈ T3, k ∉ T4) := Lib.hid (fun k hk hk2 => by
            rcases hg k hk2 with h1 | h1
            · exact HD3.out k hk h1
            · have := hz3b.all_lt k hk; omega)
          have HK4 := Lib.hid (Grow.ge hg (n := w.heap.size) (Nat.le_trans HF22.out.size HFb.out.size) HK2.out)
          have HF24 := Lib.hid ((HF22.out.trans HFb.out (by simp)).trans hf (fun k hk => Or.inr (HK2.out k hk)))
          obtain ⟨x0, x1, x2, x3⟩ := HCX.out.keep HF24.out (by simp)
          clear hx hf hg hs hz3b CB
          unfold Stop
          have he2 := HE2.out
          cases EM
          all_goals
            simp only [Bool.not_false, Bool.not_true] at he2
            go_wp2_with (go_at_call 20; refine (HEX.out _).mono ?_; rintro e w25 ⟨rfl, hf⟩; have HF25 := Lib.hid (HF24.out.trans hf (by simp)); have HZ5 := Lib.hid (HZ3b.out.keep0 hf); have HZ6 := Lib.hid (HZ4.out.keep0 hf); clear hf)
            go_roundw
            case rel => exact ⟨j + 1, T3, T4, LA2, LB2, by go_num, by omega, HZ5.out, HZ6.out, HK3.out, HK4.out, HD4.out, HA2.out, HB2.out, HF25.out⟩
            case measure => simp [intOf]; omega
        · have t1 : decide (j < l.length) = false := by simpa using h
          have hjl : j = l.length := by omega
          have ha9 := HA.out
          have hb9 := HB.out
          rw [hjl] at ha9 hb9
          have heq : LA = LB := srt_unique HZ1.out.srt HZ2.out.srt (Has.same ha9 hb9)
          subst heq
          clear ha9 hb9
          have hlen : LA.length ≤ 40 := by have := HZ1.out.len; omega
          have CA1 := Lib.hid fun W (hW : Fr [] wr W) => ix_all (HZ1.out.keep0 hW) (by omega)
          have CA2 := Lib.hid fun W (hW : Fr [] wr W) => ix_all (HZ2.out.keep0 hW) (by omega)
          have CS1 := Lib.hid fun W (hW : Fr [] wr W) => ix_stab (HZ1.out.keep0 hW) (by omega) k 5
          have CS2 := Lib.hid fun W (hW : Fr [] wr W) => ix_stab (HZ2.out.keep0 hW) (by omega) k 5
          obtain ⟨O, hO⟩ : ∃ O, O = stabS k.toList 5 LA := ⟨_, rfl⟩
          have hol : O.length ≤ 100000 := by
            rw [hO]
            unfold stabS sortI
            rw [(List.mergeSort_perm _ _).length_eq, List.length_map]
            exact Nat.le_trans (List.length_filter_le _ _) (by omega)
          have HOL := Lib.hid hol
          rw [← hO] at CS1 CS2
          clear hO hjl hol
          go_wp2_with (go_at_call 12; refine (CA1.out _ (Fr.refl [] wr)).mono ?_; rintro e w5 ⟨v5, rfl, ho, hf⟩; refine go_stop ?_)
          have HR5 : Hid (SbIn w5 v5 LA) := Lib.hid (LAt.read ho.lies Sb.clen)
          obtain ⟨s5, c5, hv5, _⟩ := ho.lies.form
          subst hv5
          have HG5 := Lib.hid hf
          clear ho hf t1 h
          unfold Stop
          go_wp2_with (go_at_call 12; refine (CA2.out _ HG5.out).mono ?_; rintro e w6 ⟨v6, rfl, ho, hf⟩; refine go_stop ?_)
          have HR6 : Hid (SbIn w6 v6 LA) := Lib.hid (LAt.read ho.lies Sb.clen)
          have HR5b : Hid (SbIn w6 (.slice s5 LA.length c5) LA) := Lib.hid (LIn.keep0 HR5.out hf)
          obtain ⟨s6, c6, hv6, _⟩ := ho.lies.form
          subst hv6
          have HG6 := Lib.hid (HG5.out.trans hf (by simp))
          clear ho hf
          unfold Stop
          go_wp2_with fail
          go_loopw [16] (fun iv wq => ∃ (m : Nat), iv = .int .i64 m ∧ m ≤ LA.length ∧ Fr [] w6 wq) (fun i _ => LA.length - (intOf i).toNat)
          case atStart => exact ⟨0, rfl, Nat.zero_le _, Fr.refl _ _⟩
          case round =>
            obtain ⟨m, rfl, hm, hf⟩ := hrel
            have HFQ := Lib.hid hf
            clear hf
            by_cases h2 : m < LA.length
            · have t2 : decide (m < LA.length) = true := by simpa using h2
              obtain ⟨y, hy⟩ : ∃ y, LA[m]? = some y := ⟨_, List.getElem?_eq_getElem h2⟩
              obtain ⟨g, off, d1, e1, _, l1, k1⟩ := SbIn.here HR5b.out (by omega)
              simp only [Value.slice.injEq] at e1
              obtain ⟨rfl, _, rfl⟩ := e1
              obtain ⟨g2, off2, d2, e2, _, l2, k2⟩ := SbIn.here HR6.out (by omega)
              simp only [Value.slice.injEq] at e2
              obtain ⟨rfl, _, rfl⟩ := e2
              have hc := (k1 m y hy).keep HFQ.out (by simp)
              have hd := (k2 m y hy).keep HFQ.out (by simp)
              have A0 := fun n : After [] wr => n.cell hc.c0 (by simp)
              have A1 := fun n : After [] wr => n.cell hc.c1 (by simp)
              have A2 := fun n : After [] wr => n.cell hc.c2 (by simp)
              have A3 := fun n : After [] wr => n.cell hc.c3 (by simp)
              have B0 := fun n : After [] wr => n.cell hd.c0 (by simp)
              have B1 := fun n : After [] wr => n.cell hd.c1 (by simp)
              have B2 := fun n : After [] wr => n.cell hd.c2 (by simp)
              have B3 := fun n : After [] wr => n.cell hd.c3 (by simp)
              have q9 := fun X => neq_same y.id y.rev y.f y.t X
              clear k1 k2 hy hc hd
              go_upto_region 28 with fail
              refine wp_region_after [] (by kernel_rfl) (by kernel_rfl) ?_
              repeat (go_big_quiet_step (fail))
              refine wpQuiet_nil ?_
              rintro _ ⟨nq, rfl⟩
              have HNQ := Lib.hid (HFQ.out.trans nq.fr (by simp))
              clear A0 A1 A2 A3 B0 B1 B2 B3
              go_wp2_with fail
              go_roundw
              case rel => exact ⟨m + 1, by go_num, by omega, HNQ.out⟩
              case measure => simp [intOf]; omega
            · have t2 : decide (m < LA.length) = false := by simpa using h2
              have HG7 := Lib.hid (HG6.out.trans HFQ.out (by simp))
              rename_i wr6
              go_wp2_with (go_at_call 14; refine (CS1.out _ HG7.out).mono ?_; rintro e w8 ⟨v8, rfl, ho, hf⟩; refine go_stop ?_)
              have HI8 := Lib.hid (out_in ho)
              have HG8 := Lib.hid (HG7.out.trans hf (by simp))
              obtain ⟨s8, c8, hv8, _⟩ := ho.lies.form
              subst hv8
              clear ho hf
              unfold Stop
              go_wp2_with (go_at_call 14; refine (CS2.out _ HG8.out).mono ?_; rintro e w9 ⟨v9, rfl, ho, hf⟩; refine go_stop ?_)
              have HI9 := Lib.hid (out_in ho)
              have HI8b : Hid (InIn w9 (.slice s8 O.length c8) O) := Lib.hid (LIn.keep0 HI8.out hf)
              have HG9 := Lib.hid (HG8.out.trans hf (by simp))
              obtain ⟨s9, c9, hv9, _⟩ := ho.lies.form
              subst hv9
              clear ho hf
              unfold Stop
              have CI : Hid (Calls Try.prog 13 #[.slice s8 O.length c8, .slice s9 O.length c9] w9 fun e w' => e = .returned (.bool true) ∧ Fr [] w9 w') := Lib.hid (by
                have := rsi_ints _ _ O O w9 HI8b.out HI9.out HOL.out HOL.out
                rw [show (O == O) = true from by simp] at this
                exact this)
              go_wp2_with (go_at_call 13; refine CI.out.mono ?_; rintro e w10 ⟨rfl, hf⟩; have HG10 := Lib.hid (HG9.out.trans hf (by simp)); clear hf)
              go_ret
              exact ⟨rfl, (HFJ.out.trans HG10.out (by simp)).below (Nat.le_refl _) (by simp)⟩

set_option maxRecDepth 100000 in
theorem contract (H : Type) (enc : TypeId × Value → H) (W : World) (base : Nat) (args : Array Value) (ds gs : List (DataW H)) (before : List MemPlace)
    (hval0 : ∀ (j : Nat) t v, Try.f5.params[j]? = some t → args[j]? = some v → Value.okWide Try.prog W .any base t v)
    (hW : DataW.Whole enc Try.prog Try.f5.params.toList Rows.subidxTurnsSpec.vars false W args.toList ds gs before) :
    Calls Try.prog 5 args W fun e W' => ∃ v, e = .returned v ∧ Rows.subidxTurnsSpec.post enc Try.prog Try.f5 false true false false W args v W' := by
  have hval : ∀ (j : Nat) t v, Try.f5.params[j]? = some t → args[j]? = some v → Value.okWide Try.prog W .any base t v := hval0
  have hW' := hW
  obtain ⟨p, q, hA0, hV, rfl, hfz, hnd⟩ := hW
  have hA : DataW.TrodAll enc Try.prog W 0 (fun _ => true) true Try.f5.params.toList args.toList ds p := hA0
  rw [Try.params5] at hA hval
  obtain ⟨v0, vs0, d0, ds0, p0, q0, hargs, rfl, rfl, h0, r0⟩ := trodAll_cons hA
  obtain ⟨v1, vs1, d1, ds1, p1, q1, rfl, rfl, rfl, h1, r1⟩ := trodAll_cons r0
  obtain ⟨v2, vs2, d2, ds2, p2, q2, rfl, rfl, rfl, h2, r2⟩ := trodAll_cons r1
  obtain ⟨rfl, rfl, rfl⟩ := trodAll_nil r2
  obtain rfl : args = #[v0, v1, v2] := by cases args; simp_all
  obtain ⟨rfl, rfl⟩ := trodVars_none hV
  have k0 := h0
  have lt0 : ∀ x ∈ p0, x.block < W.heap.size := by obtain ⟨m, hm⟩ := k0; exact DataW.trod_lt m _ _ _ hm
  have k1 := h1
  have lt1 : ∀ x ∈ p1, x.block < W.heap.size := by obtain ⟨m, hm⟩ := k1; exact DataW.trod_lt m _ _ _ hm
  have k2 := h2
  have lt2 : ∀ x ∈ p2, x.block < W.heap.size := by obtain ⟨m, hm⟩ := k2; exact DataW.trod_lt m _ _ _ hm
  obtain ⟨l, hl⟩ := open_subs (hval 0 26 v0 rfl rfl) h0
  obtain ⟨k, rfl, rfl, _, wk⟩ := open_string Try.underlying9 (hval 1 9 v1 rfl rfl) h1
  obtain ⟨b8, rfl, _, _, wb⟩ := open_int Try.underlying5 (hval 2 5 v2 rfl rfl) h2
  clear hA0 hval0 hval
  refine (walk v0 l k b8 W hl wb).mono fun e W' ⟨he, bel⟩ => ?_
  subst he
  exact ⟨_, rfl, _, _, _, [], _, [], hW', trodAll_mk1 (shut_bool Try.underlying4 _), (trodAll_cons_mk (Below.trod laid_prog (by kernel_rfl) (of_decide_eq_true (by kernel_rfl)) k0 bel lt0) (trodAll_cons_mk (Below.trod laid_prog (by kernel_rfl) (of_decide_eq_true (by kernel_rfl)) k1 bel lt1) (trodAll_cons_mk (Below.trod laid_prog (by kernel_rfl) (of_decide_eq_true (by kernel_rfl)) k2 bel lt2) trodAll_mk0))), rfl, bel.frame _, fun h => by cases h⟩

set_option maxRecDepth 100000 in
theorem lifted (os : Os) (started : os.Started) (H : Type) (enc : TypeId × Value → H) :
    ReturnsInHanded {} Try.checked os 5 .any (Rows.subidxTurnsSpec.pre6 enc Try.prog Try.f5 Rows.subidxTurnsRow.domain false) (Rows.subidxTurnsSpec.post enc Try.prog Try.f5 false true false false) := by
  refine returnsInHanded_of_change (C := Try.checked) own_prog started (by kernel_rfl) Try.func5
    (ChangeSpec.witness6 (enc := enc) (C := Try.checked) false ⟨#[], #[.slice none 0 0, .string ⟨#[]⟩, .int .u8 0], []⟩ 8 (by kernel_rfl) (by kernel_rfl) (by kernel_rfl) (by kernel_rfl)) ?_
  intro W base args ds gs before hval hW _ _
  exact contract H enc W base args ds gs before hval hW

theorem proved : Rows.SubidxTurnsSaid :=
  OpenClaim.holds_of_wide 5 Try.f5 rfl rfl rfl rfl rfl rfl rfl ⟨rfl, rfl, rfl, rfl, rfl⟩ rfl rfl rfl rfl rfl (by kernel_rfl) Try.func5 (by kernel_rfl)
    (of_decide_eq_true (by kernel_rfl)) (by unfold Func.isWrapper; first | (rw [if_pos (by decide +kernel)]; kernel_rfl) | (rw [if_neg (by decide +kernel)]; exact ⟨rfl, rfl⟩))
    (fun os started H enc _ => lifted os started H enc)

end Go.Proofs.Ytcieokfjkfpajaa.lawSubidxTurns
