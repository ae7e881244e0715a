/- Without Once a watch that is polled as often as it takes is told just the events of its range, of all revisions from its first one on, in turn: for every two lists of deeds, every range and every number. No condition. -/
import Derived.Test.YtmbfcdoemcffpaaCuAwake
import Derived.Test.YtmbfcdoemcffpaaCuLaw
import Derived.Deep.DeepCutAuto
namespace Go.Proofs.Ytmbfcdoemcffpaa.lawCursorEvents
open Go.ChangeShapes Go.WideShapes Go.ChangeAt Go.RowKit Go.Deep Go.ChangeMaps
set_option linter.unusedVariables false
set_option linter.unusedSimpArgs false

theorem wrap_in {x : Int} (h : -4000000000000000 ≤ x ∧ x ≤ 4000000000000000) : IntKind.i64.wrap x = x := by simp only [IntKind.wrap, IntKind.signed, IntKind.bits]; simp; omega
theorem want_step (f t : ByteArray) {rows : List (List Ev)} {a k : Nat} {r : List Ev} (h : rows[a + k]? = some r) : filterE f t ((rows.drop a).take (k + 1)).flatten = filterE f t ((rows.drop a).take k).flatten ++ filterE f t r := by
  have h1 : (rows.drop a)[k]? = some r := by rw [List.getElem?_drop]; exact h
  rw [flat_step h1]
  unfold filterE
  rw [List.filter_append]
theorem want_few (f t : ByteArray) (rows : List (List Ev)) (a k : Nat) : (filterE f t ((rows.drop a).take k).flatten).length ≤ rows.flatten.length := by
  refine Nat.le_trans (List.length_filter_le _ _) ?_
  refine Nat.le_trans (take_flat _ _) ?_
  conv => rhs; rw [← List.take_append_drop a rows]
  rw [List.flatten_append, List.length_append]; omega
set_option maxRecDepth 100000 in
set_option maxHeartbeats 16000000 in
theorem walk (u0 u1 : Value) (l0 l1 : List Dd) (f t : ByteArray) (most : Int) (w : World) (hl0 : DdIn w u0 l0) (hl1 : DdIn w u1 l1) (hmost : (Lit.int .u8 most).wf = true) :
    Calls Try.prog 5 #[.agg #[u0, u1], .agg #[.string f, .string t], .int .u8 most] w fun e w' => e = .returned (.bool true) ∧ Below w.heap.size w w' := by
  have hm8 : 0 ≤ most ∧ most ≤ 255 := by simpa [Lit.wf, IntKind.min, IntKind.max, IntKind.signed, IntKind.bits] using hmost
  clear hmost
  have HL0 := Lib.hid hl0
  have HL1 := Lib.hid hl1
  obtain ⟨s0, c0, rfl, la0, ma0⟩ := hl0.form
  obtain ⟨s1, c1, rfl, la1, ma1⟩ := hl1.form
  unfold maxLen at ma0 ma1
  clear hl0 hl1
  obtain ⟨z0, z1, z2⟩ := two_boxes (w := w) (a := .cells #[.slice s0 l0.length c0, .slice s1 l1.length c1] 73) (b := .cells #[.string f, .string t] 23) (Fr.refl [] _)
  have HZ1 := Lib.hid z1
  have HZ0 := Lib.hid z0
  have HF0 := Lib.hid z2
  obtain ⟨pr, hpr⟩ : ∃ pr, pr = w.heap.size + 1 := ⟨_, rfl⟩
  clear z0 z1 z2
  go_enter Try.func5, Try.ntmps5
  go_wp2_with (go_at_call 8; refine (cu_awake _).mono ?_; rintro e w1 ⟨rfl, h1⟩; refine go_stop ?_)
  unfold Stop
  have HF := Lib.hid (HF0.out.trans h1 (by simp))
  have HX0 := Lib.hid (h1.keep HZ0.out (by simp))
  have hx1 := h1.keep HZ1.out (by simp)
  rw [← hpr] at hx1 ⊢
  have HX1 := Lib.hid hx1
  obtain ⟨a0, a1, _⟩ := cells2 HX0.out
  clear h1 hx1 hpr HZ0 HZ1 HF0
  go_wp2_with (go_at_call 17; refine (cfew_any _ l0 _ (HL0.out.keep0 HF.out)).mono ?_; rintro e wn ⟨b, rfl, hb, rfl⟩; refine go_stop ?_)
  unfold Stop
  cases b
  · clear hb
    go_wp2_with fail
    go_ret
    exact ⟨rfl, HF.out.below (Nat.le_refl _) (by simp)⟩
  obtain ⟨h30, h8⟩ := hb.1 rfl
  have H8 := Lib.hid h8
  clear hb h8
  go_wp2_with (go_at_call 17; refine (cfew_any _ l1 _ (HL1.out.keep0 HF.out)).mono ?_; rintro e wn ⟨b, rfl, hb, rfl⟩; refine go_stop ?_)
  unfold Stop
  cases b
  · clear hb
    go_wp2_with fail
    go_ret
    exact ⟨rfl, HF.out.below (Nat.le_refl _) (by simp)⟩
  obtain ⟨m30, m8⟩ := hb.1 rfl
  have M8 := Lib.hid m8
  clear hb m8 a0 a1
  go_wp2_with (go_at_call 18; refine (hist_new _).mono ?_; rintro e w2 ⟨p, S0, rfl, h1, h2, h3⟩; refine go_stop ?_)
  unfold Stop
  have HS := Lib.hid h1
  have HG : Hid (∀ k ∈ S0, w.heap.size ≤ k) := Lib.hid (fun k hk => Nat.le_trans HF.out.size (h3 k hk))
  have HPR : Hid (∀ k ∈ S0, k ≠ pr) := Lib.hid (fun k hk => by have := h3 k hk; have := lt_of_block HX1.out; omega)
  have HF2 := Lib.hid (HF.out.trans h2 (by simp))
  have HX2 := Lib.hid (h2.keep HX1.out (by simp))
  clear h1 h2 h3 HF HX1 HX0
  go_wp2_with fail
  go_loopw [11] (fun i wr => ∃ (j : Nat) (S : List Nat) (H : HA), i = .int .i64 j ∧ j ≤ l0.length ∧ Hs wr p S H ∧ HOk H j ∧ H.hor = 0 ∧ (∀ k ∈ S, w.heap.size ≤ k) ∧ (∀ k ∈ S, k ≠ pr) ∧
    wr.heap[pr]? = some (.cells #[.string f, .string t] 23 (0, 0)) ∧ Fr [] w wr) (fun i _ => l0.length - (intOf i).toNat)
  case atStart => exact ⟨0, S0, HA.zero, rfl, Nat.zero_le _, HS.out, HOk.zero, rfl, HG.out, HPR.out, HX2.out, HF2.out⟩
  case round =>
    clear HS HG HPR HX2 HF2
    obtain ⟨j, S, H, rfl, hj, hs, hok, hh0, hg, hne, hx, hf⟩ := hrel
    have HS := Lib.hid hs
    have OKJ := Lib.hid hok
    have HH0 := Lib.hid hh0
    have HG := Lib.hid hg
    have HN := Lib.hid hne
    have HX := Lib.hid hx
    have HF := Lib.hid hf
    clear hs hok hh0 hg hne hx hf
    by_cases h : j < l0.length
    · have t1 : decide ((j : Int) < (l0.length : Int)) = true := by simp; omega
      obtain ⟨d, hd⟩ : ∃ d, l0[j]? = some d := ⟨_, List.getElem?_eq_getElem h⟩
      obtain ⟨g, off, d1, e1, hg, l1, k1⟩ := DdIn.here HL0.out (by omega)
      cases e1
      obtain ⟨p0, p1, p2, po⟩ := k1 j d hd
      replace p1 := HF.out.cell p1 (by simp)
      have HO := Lib.hid po
      have HO8 := Lib.hid (H8.out d (List.mem_of_getElem? hd))
      obtain ⟨su, cu, hu, _, _⟩ := po.form
      rw [hu] at p1 HO
      clear hd k1 po hu p0 p2 hg
      go_wp2_with (go_at_call 19; refine (deed_app (n := j) _ d.ops HS.out OKJ.out (by omega) HF.out HG.out HO.out HO8.out).mono ?_; rintro e w4 ⟨v4, S4, rfl, h1, h2, h3, h4, h5, h6⟩; have HS4 := Lib.hid h1; have OK4 := Lib.hid h2; have HF4 := Lib.hid h3; have HG4 := Lib.hid h6; have HX4 := Lib.hid (h4.keep HX.out (fun hm => HN.out _ hm rfl)); have HN4 : Hid (∀ k ∈ S4, k ≠ pr) := Lib.hid (grow_ne h5 HN.out (lt_of_block HX.out)); clear h1 h2 h3 h4 h5 h6)
      go_roundw
      case rel => exact ⟨j + 1, S4, H.app d.ops, by go_num, by omega, HS4.out, OK4.out, HH0.out, HG4.out, HN4.out, HX4.out, HF4.out⟩
      case measure => simp [intOf]; omega
    · have t1 : decide ((j : Int) < (l0.length : Int)) = false := by simp; omega
      replace OKJ := Lib.hid (OKJ.out.mono (show j ≤ 30 by omega))
      clear h30
      obtain ⟨a, ha⟩ : ∃ a : Nat, a = H.rows.length := ⟨_, rfl⟩
      have hal : a ≤ 30 := by rw [ha]; exact OKJ.out.rev
      have HOP := Lib.hid (cur_open f t HS.out OKJ.out (by omega))
      rw [← ha] at HOP
      unfold Cu.val at HOP
      have HAL := Lib.hid ha
      clear ha
      obtain ⟨x0, x1, _⟩ := cells2 HX.out
      go_wp2_with (go_at_call 20; refine HOP.out.mono ?_; rintro e w3 ⟨v3, rfl, h1, h2⟩; refine go_stop ?_)
      unfold Stop
      have hlt := HS.out.lt
      have HS3 := Lib.hid (HS.out.keep h2 (by simp))
      have HF3 := Lib.hid (HF.out.trans h2 (by simp))
      have HX3 := Lib.hid (h2.keep HX.out (by simp))
      have HLT : Hid (∀ k ∈ S, k < w3.heap.size) := Lib.hid (fun k hk => by have := hlt k hk; have := h2.size; omega)
      clear h1 h2 hlt x0 x1 HOP
      go_wp2_with fail
      obtain ⟨pc, hpc⟩ : ∃ pc, pc = w3.heap.size := ⟨_, rfl⟩
      obtain ⟨wl, hwl⟩ : ∃ x, x = w3.alloc (.cells #[.string f, .string t, .int .i64 ((a : Int) + 1), .bool false, .bool false] 31) := ⟨_, rfl⟩
      have hA : wl.heap[pc]? = some (.cells #[.string f, .string t, .int .i64 ((a : Int) + 1), .bool false, .bool false] 31 (0, 0)) := by rw [hwl, hpc]; exact new_block w3 _
      have hfl : Fr [] w3 wl := by rw [hwl]; exact (Fr.refl [] w3).alloc _
      have hprc : pr ≠ pc := by have := lt_of_block HX3.out; omega
      rw [← hpc, ← hwl]
      have HSL := Lib.hid (HS3.out.keep hfl (by simp))
      have HFL := Lib.hid (HF3.out.trans hfl (by simp))
      have HXL := Lib.hid (hfl.keep HX3.out (by simp))
      have HNL : Hid (∀ k ∈ S, k ≠ pr ∧ k ≠ pc) := Lib.hid (fun k hk => ⟨HN.out k hk, by have := HLT.out k hk; omega⟩)
      have HCL := Lib.hid hA
      have HPW : Hid (w.heap.size ≤ pc) := Lib.hid (by have := HF3.out.size; omega)
      have HRC := Lib.hid hprc
      clear hA hfl hwl hpc hprc HS HF HX HN HS3 HF3 HX3 HLT
      go_loopw [15] (fun i wr2 => ∃ (j2 : Nat) (S2 : List Nat) (H2 : HA), i = .int .i64 j2 ∧ j2 ≤ l1.length ∧ Hs wr2 p S2 H2 ∧ HOk H2 (30 + j2) ∧ H2.hor = 0 ∧ a ≤ H2.rows.length ∧ H2.rows.length ≤ a + j2 ∧ (∀ k ∈ S2, w.heap.size ≤ k) ∧ (∀ k ∈ S2, k ≠ pr ∧ k ≠ pc) ∧
        wr2.heap[pr]? = some (.cells #[.string f, .string t] 23 (0, 0)) ∧ wr2.heap[pc]? = some (.cells #[.string f, .string t, .int .i64 ((a : Int) + 1), .bool false, .bool false] 31 (0, 0)) ∧ Fr [] w wr2) (fun i _ => l1.length - (intOf i).toNat)
      case atStart => exact ⟨0, S, H, rfl, Nat.zero_le _, HSL.out, OKJ.out, HH0.out, by rw [HAL.out]; exact Nat.le_refl _, by rw [HAL.out]; exact Nat.le_refl _, HG.out, HNL.out, HXL.out, HCL.out, HFL.out⟩
      case round =>
        clear HSL HG HNL HXL HCL HFL OKJ HH0 HAL
        obtain ⟨j2, S2, H2, rfl, hj2, hs, hok, hh0, hal1, hal2, hg, hne, hx, hc, hf⟩ := hrel
        have HS := Lib.hid hs
        have OKJ := Lib.hid hok
        have HH0 := Lib.hid hh0
        have HA1 := Lib.hid hal1
        have HA2 := Lib.hid hal2
        have HG := Lib.hid hg
        have HN := Lib.hid hne
        have HX := Lib.hid hx
        have HC := Lib.hid hc
        have HF := Lib.hid hf
        clear hs hok hh0 hg hne hx hf hc hal1 hal2
        by_cases h2 : j2 < l1.length
        · have t2 : decide ((j2 : Int) < (l1.length : Int)) = true := by simp; omega
          obtain ⟨d, hd⟩ : ∃ d, l1[j2]? = some d := ⟨_, List.getElem?_eq_getElem h2⟩
          obtain ⟨g, off, d1, e1, hg, l1', k1⟩ := DdIn.here HL1.out (by omega)
          cases e1
          obtain ⟨p0, p1, p2, po⟩ := k1 j2 d hd
          replace p1 := HF.out.cell p1 (by simp)
          have HO := Lib.hid po
          have HO8 := Lib.hid (M8.out d (List.mem_of_getElem? hd))
          obtain ⟨su, cu, hu, _, _⟩ := po.form
          rw [hu] at p1 HO
          clear hd k1 po hu p0 p2 hg
          go_wp2_with (go_at_call 19; refine (deed_app (n := 30 + j2) _ d.ops HS.out OKJ.out (by omega) HF.out HG.out HO.out HO8.out).mono ?_; rintro e w4 ⟨v4, S4, rfl, h1, h2, h3, h4, h5, h6⟩; have HS4 := Lib.hid h1; have OK4 := Lib.hid h2; have HF4 := Lib.hid h3; have HG4 := Lib.hid h6; have HX4 := Lib.hid (h4.keep HX.out (fun hm => (HN.out _ hm).1 rfl)); have HC4 := Lib.hid (h4.keep HC.out (fun hm => (HN.out _ hm).2 rfl)); have HN4 : Hid (∀ k ∈ S4, k ≠ pr ∧ k ≠ pc) := Lib.hid (fun k hk => ⟨grow_ne h5 (fun k hk => (HN.out k hk).1) (lt_of_block HX.out) k hk, grow_ne h5 (fun k hk => (HN.out k hk).2) (lt_of_block HC.out) k hk⟩); clear h1 h2 h3 h4 h5 h6)
          have hpl := putR_len H2.rows (rowOf H2.rows d.ops)
          have hA3 : a ≤ (H2.app d.ops).rows.length := by have := HA1.out; show a ≤ (putR _ _).length; omega
          have hA4 : (H2.app d.ops).rows.length ≤ a + (j2 + 1) := by have := HA2.out; show (putR _ _).length ≤ _; omega
          go_roundw
          case rel => exact ⟨j2 + 1, S4, H2.app d.ops, by go_num, by omega, HS4.out, OK4.out, HH0.out, hA3, hA4, HG4.out, HN4.out, HX4.out, HC4.out, HF4.out⟩
          case measure => simp [intOf]; omega
        · have t2 : decide ((j2 : Int) < (l1.length : Int)) = false := by simp; omega
          replace OKJ := Lib.hid (OKJ.out.mono (show 30 + j2 ≤ 60 by omega))
          obtain ⟨L, hL⟩ : ∃ L : Nat, L = H2.rows.length := ⟨_, rfl⟩
          have haL : a ≤ L := by rw [hL]; exact HA1.out
          have hL30 : L ≤ a + 30 := by rw [hL]; have := HA2.out; omega
          have HLE := Lib.hid hL
          have HHR := Lib.hid fun W (hw : Fr [] wr W) => hist_rev (HS.out.keep hw (by simp))
          rw [← hL] at HHR
          obtain ⟨b0, b1, b2, b3, b4, _⟩ := cells5 HC.out
          clear hL m30
          have HEV := Lib.hid fun W (hw : Fr [] wr W) (r : Int) => hist_evs r (HS.out.keep hw (by simp)) OKJ.out (by omega)
          have HWF : Hid (H2.rows.flatten.length ≤ 1200) := Lib.hid (by have := OKJ.out.flat; omega)
          go_wp2_with fail
          go_loopw [16, 17] (fun wv zv wx => ∃ (k : Nat) (z : Int), zv = .int .i64 z ∧ Hid (z = (a : Int) + 1 + k) ∧ a + k ≤ L ∧ OutAt Ev.cells 67 4 wr wx wv (filterE f t ((H2.rows.drop a).take k).flatten) ∧ Fr [] wr wx) (fun _ i _ => L + 2 - (intOf i).toNat)
          case atStart => exact ⟨0, _, rfl, Lib.hid (by simp), by omega, OutAt.nil _ _, Fr.refl _ _⟩
          case round =>
            obtain ⟨k, z, rfl, hz, hk, ho, hf⟩ := hrel
            have HO := Lib.hid ho
            have HFx := Lib.hid hf
            have hz1 : 1 ≤ z := by have := hz.out; omega
            have hz2 : z ≤ 100 := by have := hz.out; omega
            have t3 : decide (1 ≤ z) = true := by simpa using hz1
            have q1 : IntKind.i64.wrap (z + 1) = z + 1 := wrap_in (by omega)
            obtain ⟨x0, x1, _⟩ := cells2 (hf.keep HX.out (by simp))
            clear ho hf b0 b1 b2 b3 b4
            by_cases hkL : a + k < L
            · have t4 : decide (z ≤ (L : Int)) = true := by have := hz.out; simp; omega
              obtain ⟨r, hr⟩ : ∃ r, H2.rows[a + k]? = some r := ⟨_, List.getElem?_eq_getElem (by rw [← HLE.out]; exact hkL)⟩
              have hE := ev_at (H := H2) (a := a + k) (by rw [HH0.out]; exact Nat.zero_le _) hr
              have hcn : (((a + k : Nat) : Int)) + 1 = z := by have := hz.out; omega
              rw [hcn] at hE
              have HEA := Lib.hid (HEV.out _ HFx.out z)
              rw [hE.1, hE.2] at HEA
              have HST := Lib.hid (want_step f t hr)
              have hrl : r.length ≤ 1200 := by have h1 := row_len2 (List.mem_of_getElem? hr); have := HWF.out; omega
              have hrm : r.length ≤ many := by unfold many; omega
              have HRM := Lib.hid hrm
              have hfl : (filterE f t r).length ≤ 1200 := Nat.le_trans (List.length_filter_le _ _) hrl
              obtain ⟨B, hB⟩ : ∃ B, B = filterE f t ((H2.rows.drop a).take k).flatten := ⟨_, rfl⟩
              have hbl : B.length ≤ 1200 := by rw [hB]; exact Nat.le_trans (want_few f t _ _ _) HWF.out
              rw [← hB] at HO HST
              clear hr hE hcn hrl hrm hB
              go_wp2_with (first
                | (go_at_call 21; refine (HHR.out _ HFx.out).mono ?_; rintro e wn ⟨rfl, rfl⟩)
                | (go_at_call 30; refine HEA.out.mono ?_; rintro e w5 ⟨v5, rfl, h1, h2, h3⟩; obtain ⟨s5, c5, hv5, _, _⟩ := h1.form; subst hv5; have HR5 := Lib.hid h1.lin; have HF5 := Lib.hid h3; obtain ⟨y0, y1, _⟩ := cells2 (h3.keep (HFx.out.keep HX.out (by simp)) (by simp)); clear h1 h2 h3)
                | (go_at_call 31; refine (rfilter_any _ r f t _ HR5.out HRM.out).mono ?_; rintro e w6 ⟨v6, rfl, h1, h2⟩; refine go_stop ?_))
              unfold Stop
              obtain ⟨s6, c6, hv6, _, _⟩ := LAt.form h1
              subst hv6
              have HR6 := Lib.hid (EvAt.read h1)
              have HF6 := Lib.hid ((HFx.out.trans HF5.out (by simp)).trans h2 (by simp))
              have HO6 := Lib.hid (HO.out.keep (HF5.out.trans h2 (by simp)))
              clear h1 h2
              go_wp2_with (at_builtin; refine wpList_append_src rfl (.tmp 91) (.tmp 94) 30 67 (.agg #[.int .i64 0, .string ⟨#[]⟩, .string ⟨#[]⟩, .bool false]) 4 48 rfl ev_slice ev_info rfl (by decide) _ B.length (allC Ev.cells B) rfl HO6.out.lies (.slice s6 (filterE f t r).length c6) (filterE f t r).length (allC Ev.cells (filterE f t r)) rfl (LIn.src HR6.out Ev.clen (by decide)) (allC_ones Ev.cone _) (by unfold maxLen; omega) (by omega) ?app)
              case app =>
              intro va w8 h1 h2 h3
              have HA8 := Lib.hid (OutAt.app HO6.out HF6.out.size (xs := filterE f t r) h1 rfl h3)
              have HF8 := Lib.hid (OutAt.fr HO6.out HF6.out h2)
              clear h1 h2 h3
              go_wp2_with fail
              go_roundw
              case rel => exact ⟨k + 1, z + 1, rfl, Lib.hid (by have := hz.out; omega), by omega, by rw [HST.out]; exact HA8.out, HF8.out⟩
              case measure => simp [intOf]; have := hz.out; omega
            · have t4 : decide (z ≤ (L : Int)) = false := by have := hz.out; simp; omega
              have hkk : a + k = L := by omega
              obtain ⟨WT, hWT⟩ : ∃ WT, WT = filterE f t (H2.rows.drop a).flatten := ⟨_, rfl⟩
              have htk : filterE f t ((H2.rows.drop a).take k).flatten = WT := by
                rw [hWT, List.take_of_length_le (by rw [List.length_drop, ← HLE.out]; omega)]
              rw [htk] at HO
              obtain ⟨sW, cW, hvW, _, _⟩ := LAt.form HO.out.lies
              subst hvW
              have hcx := HFx.out.keep HC.out (by simp)
              have hxx := HFx.out.keep HX.out (by simp)
              have HWL : Hid (LFar [pc] Ev.cells 4 wr (.slice sW WT.length cW) WT) := Lib.hid ⟨EvAt.read HO.out.lies, fun _ g hg hm => by
                obtain ⟨cur, hc⟩ := ev_tag HO.out.lies hg
                simp at hm
                subst hm
                rw [hcx] at hc; simp at hc⟩
              have HCx := Lib.hid hcx
              have HFw := Lib.hid (HF.out.trans HFx.out (by simp))
              have HSx := Lib.hid (HS.out.keep HFx.out (by simp))
              have HPL : Hid (pc < wr.heap.size) := Lib.hid (lt_of_block hcx)
              have HWTE := Lib.hid hWT
              obtain ⟨Kn, hKn, hK1⟩ : ∃ Kn : Nat, 1 + most % 4 = (Kn : Int) ∧ 1 ≤ Kn := ⟨(1 + most % 4).toNat, by omega, by omega⟩
              have q2 : IntKind.i64.wrap (1 + most % 4) = 1 + most % 4 := wrap_in (by omega)
              have HHX := Lib.hid (HHR.out _ HFx.out)
              clear hcx hxx htk hWT x0 x1 HEV HHR HO HX HC HF
              go_wp2_with (go_at_call 21; refine HHX.out.mono ?_; rintro e wn ⟨rfl, rfl⟩)
              clear hz1 hz2 t3 t4 q1 hz HHX HFx HS
              obtain ⟨wM, hwM⟩ : ∃ x, x = wr := ⟨_, rfl⟩
              subst hwM
              go_loopw [20, 21] (fun gv iv wx => ∃ (i ai : Nat), iv = .int .i64 i ∧ i ≤ 31 ∧ a ≤ ai ∧ ai ≤ L ∧ min L (a + i) ≤ ai ∧ OutAt Ev.cells 67 4 wM wx gv (filterE f t ((H2.rows.drop a).take (ai - a)).flatten) ∧
                wx.heap[pc]? = some (.cells #[.string f, .string t, .int .i64 ((ai : Int) + 1), .bool false, .bool false] 31 (0, 0)) ∧ Fr [pc] wM wx) (fun _ i _ => 31 - (intOf i).toNat)
              case atStart =>
                refine ⟨0, a, rfl, by omega, Nat.le_refl _, by omega, by omega, ?_, HCx.out, Fr.refl _ _⟩
                have : filterE f t ((H2.rows.drop a).take (a - a)).flatten = [] := by rw [Nat.sub_self]; rfl
                rw [this]
                exact OutAt.nil _ _
              case round =>
                obtain ⟨i, ai, rfl, hi, hai1, hai2, hai3, ho, hc, hf⟩ := hrel
                have HO := Lib.hid ho
                have HC := Lib.hid hc
                have HFx := Lib.hid hf
                obtain ⟨b0, b1, b2, b3, b4, _⟩ := cells5 hc
                clear ho hc hf
                by_cases hi31 : i < 31
                · have t3 : decide ((i : Int) < 31) = true := by simp; omega
                  have hpS : ∀ k ∈ S2, k ∉ [pc] := fun k hk hm => (HN.out k hk).2 (by simpa using hm)
                  have hlv : Live ⟨f, t, (ai : Int) + 1, false, false⟩ H2 ai := ⟨rfl, rfl, by rw [HH0.out]; exact Nat.zero_le _, by rw [← HLE.out]; exact hai2⟩
                  have hnm := hlv.n_min (m := Kn)
                  rw [← HLE.out] at hnm
                  obtain ⟨n, hn⟩ : ∃ n, n = Cu.n ⟨f, t, (ai : Int) + 1, false, false⟩ H2 (Kn : Int) := ⟨_, rfl⟩
                  obtain ⟨R, hR⟩ : ∃ R, R = Cu.full ⟨f, t, (ai : Int) + 1, false, false⟩ (Cu.got ⟨f, t, (ai : Int) + 1, false, false⟩ H2 (Kn : Int)) := ⟨_, rfl⟩
                  have hmore := hlv.more hai1 (Kn : Int)
                  rw [← hn] at hnm
                  simp only at hmore
                  rw [← hR, ← hn] at hmore
                  have hRl : R.length ≤ 1000 := by
                    rw [hR]; refine Nat.le_trans (full_few _ _) ?_
                    rw [got_len, ← hn]; omega
                  have HPO : Hid (Calls Try.prog 25 #[.agg #[.string f, .string t, .int .i64 ((ai : Int) + 1), .bool false, .bool false], .pointer (some ⟨p, 0, none⟩), .int .i64 (Kn : Int)] wr fun e w' => ∃ s c, e = .returned (.tuple #[.agg #[.string f, .string t, .int .i64 ((ai : Int) + 1 + n), .bool false, .bool false], .agg #[.int .i64 0, .int .i64 0, .int .i64 ((ai : Int) + n), .slice s R.length c]]) ∧ RowsF ([pc] ++ u20.ownBlock.toList) w' (.slice s R.length c) R ∧ Fr [] wr w') := Lib.hid ((cur_poll ([pc] ++ u20.ownBlock.toList) ⟨f, t, (ai : Int) + 1, false, false⟩ (Kn : Int) (HSx.out.keep HFx.out hpS) OKJ.out (by omega) (fun k hk => by
                      rcases List.mem_append.1 hk with hk | hk
                      · have := lt_of_block HC.out; simp at hk; omega
                      · exact HO.out.lies.lt k (Option.mem_toList.1 hk)) ⟨by show -1500000000000 ≤ (ai : Int) + 1; omega, by show (ai : Int) + 1 ≤ 1500000000000; omega⟩).mono (by
                    rintro e w' ⟨v, rfl, h1, h2⟩
                    rw [hlv.pollN, full_tell rfl, ← hR, ← hn] at h1
                    obtain ⟨s, c, hv, _, _⟩ := h1.form
                    subst hv
                    rw [hlv.pollN, hlv.pollC, full_tell rfl, ← hR, ← hn]
                    exact ⟨s, c, rfl, h1, h2⟩))
                  have HMO := Lib.hid hmore
                  have HNM := Lib.hid hnm
                  clear hlv hn hR hmore hpS hnm
                  go_wp2_with (go_at_call 25; refine HPO.out.mono ?_; rintro e w5 ⟨s5, c5, rfl, h1, h2⟩; refine go_stop ?_)
                  unfold Stop
                  obtain ⟨sg, cg, hvg, _, _⟩ := LAt.form HO.out.lies
                  have HO5 := Lib.hid (HO.out.keep h2)
                  have HR5 := Lib.hid h1
                  have HC5 := Lib.hid (h2.keep HC.out (by simp))
                  have HF5 := Lib.hid (HFx.out.trans h2 (by simp))
                  have bc := cells5 HC5.out
                  obtain ⟨d0, d1, d2, d3, d4, df⟩ := bc
                  have df0 := df 0
                  have df1 := df 1
                  have df2 := df 2
                  have df3 := df 3
                  have df4 := df 4
                  have hpl5 := lt_of_block HC5.out
                  have n1 : ¬ pc = w5.heap.size := by omega
                  have n2 : ¬ w5.heap.size = pc := by omega
                  have n3 : ¬ pc = w5.heap.size + 1 := by omega
                  have n4 : ¬ w5.heap.size + 1 = pc := by omega
                  have n5 : pc < w5.heap.size + 1 := by omega
                  clear h1 h2 df b0 b1 b2 b3 b4 hvg HPO
                  go_wp2_with fail
                  obtain ⟨pn, hpn⟩ : ∃ pn, pn = w5.heap.size + 1 := ⟨_, rfl⟩
                  obtain ⟨wI, hwI⟩ : ∃ x, x = ((((((w5.setCell ⟨pc, 0, none⟩ (.string f)).setCell ⟨pc, 1, none⟩ (.string t)).setCell ⟨pc, 2, none⟩ (.int .i64 ((ai : Int) + 1 + n))).setCell ⟨pc, 3, none⟩ (.bool false)).setCell ⟨pc, 4, none⟩ (.bool false)).alloc (.cells #[.string f, .string t, .int .i64 ((ai : Int) + 1 + n), .bool false, .bool false] 31)).alloc (.cells #[.int .i64 0, .int .i64 0, .int .i64 ((ai : Int) + n), .slice s5 R.length c5] 34) := ⟨_, rfl⟩
                  have hcI : wI.heap[pc]? = some (.cells #[.string f, .string t, .int .i64 ((ai : Int) + 1 + n), .bool false, .bool false] 31 (0, 0)) := by
                    rw [hwI]; exact blk_alloc (blk_alloc (set5_block HC5.out _ _ _ _ _) _) _
                  have hnI : wI.heap[pn]? = some (.cells #[.int .i64 0, .int .i64 0, .int .i64 ((ai : Int) + n), .slice s5 R.length c5] 34 (0, 0)) := by
                    rw [hwI]; exact nblk_at (by rw [hpn]; simp)
                  have hfI : Fr [pc] w5 wI := by
                    rw [hwI]
                    refine Fr.alloc (Fr.alloc ?_ _) _
                    with_reducible (repeat (first | exact Fr.refl _ _ | refine Fr.setCell ?_ (Or.inl (by simp)) _))
                  rw [← hpn, ← hwI]
                  have hgpc : ∀ k, u20.ownBlock = some k → k ∉ [pc] := fun k hk hm => by
                    have := HO5.out.new k hk
                    have := HPL.out
                    simp at hm; omega
                  have HOI : Hid (OutAt Ev.cells 67 4 wM wI u20 (filterE f t ((H2.rows.drop a).take (ai - a)).flatten)) := Lib.hid ⟨HO5.out.lies.keep hfI hgpc, HO5.out.new⟩
                  have HRI := Lib.hid (HR5.out.keep (hfI.mono (fun k hk => Or.inl (List.mem_append.2 (Or.inl hk)))))
                  have HFI := Lib.hid (HF5.out.trans hfI (fun k hk => Or.inl hk))
                  have HCI := Lib.hid hcI
                  have HNI := Lib.hid hnI
                  have hal0 : (filterE f t ((H2.rows.drop a).take (ai - a)).flatten).length + R.flatten.length ≤ 1200 := by
                    have h1 := congrArg List.length HMO.out
                    rw [List.length_append] at h1
                    rw [h1]
                    exact Nat.le_trans (want_few f t _ _ _) HWF.out
                  clear hcI hnI hfI hwI hpn hgpc n1 n2 n3 n4 n5 d0 d1 d2 d3 d4 df0 df1 df2 df3 df4 hpl5 HO5 HR5 HC5 HF5 HO HC HFx
                  obtain ⟨G0, hG0⟩ : ∃ G0, G0 = filterE f t ((H2.rows.drop a).take (ai - a)).flatten := ⟨_, rfl⟩
                  rw [← hG0] at HOI HMO hal0
                  clear hG0
                  go_loopw [20, 24] (fun gv kv wy => ∃ q : Nat, kv = .int .i64 q ∧ q ≤ R.length ∧ OutAt Ev.cells 67 4 wM wy gv (G0 ++ (R.take q).flatten) ∧ RowsF ([pc] ++ gv.ownBlock.toList) wy (.slice s5 R.length c5) R ∧
                    wy.heap[pc]? = some (.cells #[.string f, .string t, .int .i64 ((ai : Int) + 1 + n), .bool false, .bool false] 31 (0, 0)) ∧ wy.heap[pn]? = some (.cells #[.int .i64 0, .int .i64 0, .int .i64 ((ai : Int) + n), .slice s5 R.length c5] 34 (0, 0)) ∧ Fr [pc] wM wy) (fun _ k _ => R.length - (intOf k).toNat)
                  case atStart => exact ⟨0, rfl, Nat.zero_le _, by simp only [List.take_zero, List.flatten_nil, List.append_nil]; exact HOI.out, HRI.out, HCI.out, HNI.out, HFI.out⟩
                  case round =>
                    clear HOI HRI HCI HNI HFI
                    obtain ⟨q, rfl, hq, ho, hr, hc, hn, hf⟩ := hrel
                    have HO := Lib.hid ho
                    have HR := Lib.hid hr
                    have HC := Lib.hid hc
                    have HNB := Lib.hid hn
                    have HFy := Lib.hid hf
                    obtain ⟨m0, m1, m2, m3, _⟩ := cells4 hn
                    clear ho hr hc hn hf
                    by_cases hqR : q < R.length
                    · have t4 : decide ((q : Int) < (R.length : Int)) = true := by simp; omega
                      obtain ⟨x, hx⟩ : ∃ x, R[q]? = some x := ⟨_, List.getElem?_eq_getElem hqR⟩
                      obtain ⟨g, off, d1, e1, l1', k1⟩ := RowsIn.here HR.out.rowsIn (by omega)
                      simp only [Value.slice.injEq] at e1
                      obtain ⟨rfl, _, rfl⟩ := e1
                      obtain ⟨u, hu, hur⟩ := k1 q x hx
                      obtain ⟨su, cu, hus, _, _⟩ := LIn.form hur
                      subst hus
                      have HXX := Lib.hid hx
                      have HUR := Lib.hid hur
                      obtain ⟨B, hB⟩ : ∃ B, B = G0 ++ (R.take q).flatten := ⟨_, rfl⟩
                      have hsum : B.length + x.length ≤ 1200 := by
                        have h3 := take_flat R (q + 1)
                        rw [flat_step hx, List.length_append] at h3
                        rw [hB, List.length_append]; omega
                      rw [← hB] at HO
                      have HBE := Lib.hid hB
                      clear hx k1 hur hB
                      go_wp2_with (at_builtin; refine wpList_append_src rfl (.tmp 118) (.tmp 123) 30 67 (.agg #[.int .i64 0, .string ⟨#[]⟩, .string ⟨#[]⟩, .bool false]) 4 48 rfl ev_slice ev_info rfl (by decide) _ B.length (allC Ev.cells B) rfl HO.out.lies (.slice su x.length cu) x.length (allC Ev.cells x) rfl (LIn.src HUR.out Ev.clen (by decide)) (allC_ones Ev.cone x) (by unfold maxLen; omega) (by omega) ?app)
                      case app =>
                      intro va w8 h1 h2 h3
                      have hgo : ∀ k ∈ u20.ownBlock.toList, wM.heap.size ≤ k := fun k hk => HO.out.new k (Option.mem_toList.1 hk)
                      have hnn : pn ∉ u20.ownBlock.toList := fun hm => by
                        obtain ⟨cur, hcc⟩ := ev_tag HO.out.lies (Option.mem_toList.1 hm)
                        rw [HNB.out] at hcc; simp at hcc
                      have hnc : pc ∉ u20.ownBlock.toList := fun hm => by have := hgo _ hm; have := HPL.out; omega
                      have hgr : Grow ([pc] ++ u20.ownBlock.toList) ([pc] ++ va.ownBlock.toList) _ := fun k hk => by
                        rcases List.mem_append.1 hk with hk | hk
                        · exact Or.inl (List.mem_append.2 (Or.inl hk))
                        · rcases h3 k (Option.mem_toList.1 hk) with h4 | h4
                          · exact Or.inl (List.mem_append.2 (Or.inr (Option.mem_toList.2 h4)))
                          · exact Or.inr (Nat.le_of_eq h4.symm)
                      have HA8 := Lib.hid (OutAt.app HO.out HFy.out.size (xs := x) h1 rfl h3)
                      have HR8 := Lib.hid (HR.out.step (h2.mono (fun k hk => Or.inl (List.mem_append.2 (Or.inr hk)))) hgr)
                      have HC8 := Lib.hid (h2.keep HC.out hnc)
                      have HN8 := Lib.hid (h2.keep HNB.out hnn)
                      have HF8 := Lib.hid (HFy.out.trans h2 (fun k hk => Or.inr (hgo k hk)))
                      clear h1 h2 h3 hgo hnn hnc hgr
                      go_wp2_with fail
                      go_roundw
                      case rel => exact ⟨q + 1, by go_num, by omega, by rw [flat_step HXX.out, ← List.append_assoc, ← HBE.out]; exact HA8.out, HR8.out, HC8.out, HN8.out, HF8.out⟩
                      case measure => simp [intOf]; omega
                    · have t4 : decide ((q : Int) < (R.length : Int)) = false := by simp; omega
                      have hqe : q = R.length := by omega
                      subst hqe
                      rw [List.take_length] at HO
                      go_wp2_with fail
                      go_roundw
                      case rel =>
                        refine ⟨i + 1, ai + n, by go_num, by omega, by omega, by have := HNM.out; omega, by have := HNM.out; omega, ?_, ?_, HFy.out⟩
                        · rw [← HMO.out]; exact HO.out
                        · have := HC.out
                          rw [show (((ai + n : Nat) : Int) + 1) = (ai : Int) + 1 + n by omega]
                          exact this
                      case measure => simp [intOf]; omega
                · have t3 : decide ((i : Int) < 31) = false := by simp; omega
                  have hie : ai = L := by omega
                  subst hie
                  have hpS : ∀ k ∈ S2, k ∉ [pc] := fun k hk hm => (HN.out k hk).2 (by simpa using hm)
                  have hWTa : filterE f t ((H2.rows.drop a).take (ai - a)).flatten = WT := by
                    rw [HWTE.out, List.take_of_length_le (by rw [List.length_drop, ← HLE.out]; exact Nat.le_refl _)]
                  rw [hWTa] at HO
                  obtain ⟨sg, cg, hvg, _, _⟩ := LAt.form HO.out.lies
                  subst hvg
                  have HGT := Lib.hid (EvAt.read HO.out.lies)
                  have HWN := Lib.hid (HWL.out.keep HFx.out).lin
                  have HSE : Hid (sameB evB WT WT = true) := Lib.hid ((sameB_eq evB_eq).2 rfl)
                  have HSF := Lib.hid (HSx.out.keep HFx.out hpS)
                  have HRV : Hid (∀ W, Fr [] wr W → Calls Try.prog 21 #[.pointer (some ⟨p, 0, none⟩)] W fun e w' => e = .returned (.int .i64 ai) ∧ Fr [] W w') := Lib.hid (fun W hW => (hist_rev (HSF.out.keep hW (by simp))).mono (by
                    rintro e w' ⟨rfl, rfl⟩
                    rw [← HLE.out]
                    exact ⟨rfl, Fr.refl _ _⟩))
                  have q3 : IntKind.i64.wrap ((ai : Int) + 1) = (ai : Int) + 1 := wrap_in (by omega)
                  have A2 := fun n : After [] wr => n.cell b2 (by simp)
                  have HFZ := Lib.hid (HFw.out.trans HFx.out (fun k hk => Or.inr (by have := HPW.out; simp at hk; omega)))
                  clear hWTa hpS HO HWL HFx HSx
                  go_wp2_with fail
                  refine wp_region_after [] (by kernel_rfl) (by kernel_rfl) ?_
                  repeat (go_big_quiet_step (first | (go_at_call 32; exact After.quiet_bool (revents_any _ _ WT WT _ (LIn.keep0 HGT.out (After.fr _)) (LIn.keep0 HWN.out (After.fr _))) HSE.out) | (go_at_call 21; exact After.quiet (HRV.out _ (After.fr _)))))
                  refine wpQuiet_nil ?_
                  rintro _ ⟨nq, rfl⟩
                  go_wp2_with fail
                  go_ret
                  exact ⟨rfl, (HFZ.out.trans nq.fr (by simp)).below (Nat.le_refl _) (by simp)⟩

set_option maxRecDepth 100000 in
theorem contract (H : Type) (enc : TypeId × Value → H) (W : World) (base : Nat) (args : Array Value) (ds gs : List (DataW H)) (before : List MemPlace)
    (hval0 : ∀ (j : Nat) t v, Try.f5.params[j]? = some t → args[j]? = some v → Value.okWide Try.prog W .any base t v)
    (hW : DataW.Whole enc Try.prog Try.f5.params.toList Rows.cursorEventsSpec.vars false W args.toList ds gs before) :
    Calls Try.prog 5 args W fun e W' => ∃ v, e = .returned v ∧ Rows.cursorEventsSpec.post enc Try.prog Try.f5 false true false false W args v W' := by
  have hval : ∀ (j : Nat) t v, Try.f5.params[j]? = some t → args[j]? = some v → Value.okWide Try.prog W .any base t v := hval0
  have hW' := hW
  obtain ⟨p, q, hA0, hV, rfl, hfz, hnd⟩ := hW
  have hA : DataW.TrodAll enc Try.prog W 0 (fun _ => true) true Try.f5.params.toList args.toList ds p := hA0
  rw [Try.params5] at hA hval
  obtain ⟨v0, vs0, d0, ds0, p0, q0, hargs, rfl, rfl, h0, r0⟩ := trodAll_cons hA
  obtain ⟨v1, vs1, d1, ds1, p1, q1, rfl, rfl, rfl, h1, r1⟩ := trodAll_cons r0
  obtain ⟨v2, vs2, d2, ds2, p2, q2, rfl, rfl, rfl, h2, r2⟩ := trodAll_cons r1
  obtain ⟨rfl, rfl, rfl⟩ := trodAll_nil r2
  obtain rfl : args = #[v0, v1, v2] := by cases args; simp_all
  obtain ⟨rfl, rfl⟩ := trodVars_none hV
  have k0 := h0
  have lt0 : ∀ x ∈ p0, x.block < W.heap.size := by obtain ⟨m, hm⟩ := k0; exact DataW.trod_lt m _ _ _ hm
  have k1 := h1
  have lt1 : ∀ x ∈ p1, x.block < W.heap.size := by obtain ⟨m, hm⟩ := k1; exact DataW.trod_lt m _ _ _ hm
  have k2 := h2
  have lt2 : ∀ x ∈ p2, x.block < W.heap.size := by obtain ⟨m, hm⟩ := k2; exact DataW.trod_lt m _ _ _ hm
  obtain ⟨u0, u1, l0, l1, rfl, hl0, hl1⟩ := open_two (hval 0 73 v0 rfl rfl) h0
  obtain ⟨rf, rt, rfl, _, _⟩ := open_range (hval 1 23 v1 rfl rfl) h1
  obtain ⟨most, rfl, _, _, wmost⟩ := open_int Try.underlying5 (hval 2 5 v2 rfl rfl) h2
  clear hA0 hval0 hval
  refine (walk u0 u1 l0 l1 rf rt most W hl0 hl1 wmost).mono fun e W' ⟨he, bel⟩ => ?_
  subst he
  exact ⟨_, rfl, _, _, _, [], _, [], hW', trodAll_mk1 (shut_bool Try.underlying4 _), (trodAll_cons_mk (Below.trod laid_prog (by kernel_rfl) (of_decide_eq_true (by kernel_rfl)) k0 bel lt0) (trodAll_cons_mk (Below.trod laid_prog (by kernel_rfl) (of_decide_eq_true (by kernel_rfl)) k1 bel lt1) (trodAll_cons_mk (Below.trod laid_prog (by kernel_rfl) (of_decide_eq_true (by kernel_rfl)) k2 bel lt2) trodAll_mk0))), rfl, bel.frame _, fun h => by cases h⟩

set_option maxRecDepth 100000 in
theorem lifted (os : Os) (started : os.Started) (H : Type) (enc : TypeId × Value → H) :
    ReturnsInHanded {} Try.checked os 5 .any (Rows.cursorEventsSpec.pre6 enc Try.prog Try.f5 Rows.cursorEventsRow.domain false) (Rows.cursorEventsSpec.post enc Try.prog Try.f5 false true false false) := by
  refine returnsInHanded_of_change (C := Try.checked) own_prog started (by kernel_rfl) Try.func5
    (ChangeSpec.witness6 (enc := enc) (C := Try.checked) false ⟨#[], #[.agg #[.slice none 0 0, .slice none 0 0], .agg #[.string ⟨#[]⟩, .string ⟨#[]⟩], .int .u8 0], []⟩ 8 (by kernel_rfl) (by kernel_rfl) (by kernel_rfl) (by kernel_rfl)) ?_
  intro W base args ds gs before hval hW _ _
  exact contract H enc W base args ds gs before hval hW

theorem proved : Rows.CursorEventsSaid :=
  OpenClaim.holds_of_wide 5 Try.f5 rfl rfl rfl rfl rfl rfl rfl ⟨rfl, rfl, rfl, rfl, rfl⟩ rfl rfl rfl rfl rfl (by kernel_rfl) Try.func5 (by kernel_rfl)
    (of_decide_eq_true (by kernel_rfl)) (by unfold Func.isWrapper; first | (rw [if_pos (by decide +kernel)]; kernel_rfl) | (rw [if_neg (by decide +kernel)]; exact ⟨rfl, rfl⟩))
    (fun os started H enc _ => lifted os started H enc)

end Go.Proofs.Ytmbfcdoemcffpaa.lawCursorEvents
