/- Whatever is done, and polled, and taken up by its token between: what a watch is told, folded onto what there was, makes what there is, of its range, at each revision up to which it is told: for every two lists of deeds and every watch. No condition. -/
import Derived.Test.YtmbfcdoemcffpaaCuFin
import Derived.Test.YtmbfcdoemcffpaaCuLaw
import Derived.Deep.DeepCutAuto
namespace Go.Proofs.Ytmbfcdoemcffpaa.lawCursorFolds
open Go.ChangeShapes Go.WideShapes Go.ChangeAt Go.RowKit Go.Deep Go.ChangeMaps
set_option linter.unusedVariables false
set_option linter.unusedSimpArgs false

theorem wrap_in (x : Int) (h : -4000000000000000 ≤ x ∧ x ≤ 4000000000000000) : IntKind.i64.wrap x = x := by simp only [IntKind.wrap, IntKind.signed, IntKind.bits]; simp; omega
set_option maxRecDepth 100000 in
set_option maxHeartbeats 16000000 in
theorem walk (lv mv : Value) (l0 l1 : List Dd) (C : Cu) (w : World) (hl0 : DdIn w lv l0) (hl1 : DdIn w mv l1) (hnx : (Lit.int .i64 C.next).wf = true) :
    Calls Try.prog 4 #[lv, mv, C.val] w fun e w' => e = .returned (.bool true) ∧ Below w.heap.size w w' := by
  clear hnx
  have HL0 := Lib.hid hl0
  have HL1 := Lib.hid hl1
  obtain ⟨s0, c0, rfl, la0, ma0⟩ := hl0.form
  obtain ⟨s1, c1, rfl, la1, ma1⟩ := hl1.form
  unfold maxLen at ma0 ma1
  obtain ⟨f, t, next, once, dead⟩ := C
  unfold Cu.val
  have HX := Lib.hid (new_block w (.cells #[.string f, .string t, .int .i64 next, .bool once, .bool dead] 25))
  have HF0 : Hid (Fr [] w (w.alloc (.cells #[.string f, .string t, .int .i64 next, .bool once, .bool dead] 25))) := Lib.hid ((Fr.refl [] w).alloc _)
  clear hl0 hl1
  go_enter Try.func4, Try.ntmps4
  go_wp2_with (go_at_call 8; refine (cu_awake _).mono ?_; rintro e w1 ⟨rfl, h1⟩; refine go_stop ?_)
  unfold Stop
  obtain ⟨pe, hpe⟩ : ∃ pe, pe = w.heap.size := ⟨_, rfl⟩
  have hx1 := h1.keep HX.out (by simp)
  rw [← hpe] at hx1 ⊢
  have HX1 := Lib.hid hx1
  have HF := Lib.hid (HF0.out.trans h1 (by simp))
  have HPE : Hid (w.heap.size ≤ pe) := Lib.hid (by omega)
  clear h1 hx1 HX HF0 hpe
  go_wp2_with (go_at_call 17; refine (cfew_any _ l0 _ (HL0.out.keep0 HF.out)).mono ?_; rintro e wn ⟨b, rfl, hb, rfl⟩; refine go_stop ?_)
  unfold Stop
  cases b
  · clear hb
    go_wp2_with fail
    go_ret
    exact ⟨rfl, HF.out.below (Nat.le_refl _) (by simp)⟩
  obtain ⟨h30, h8⟩ := hb.1 rfl
  have H8 := Lib.hid h8
  clear hb h8
  go_wp2_with (go_at_call 17; refine (cfew_any _ l1 _ (HL1.out.keep0 HF.out)).mono ?_; rintro e wn ⟨b, rfl, hb, rfl⟩; refine go_stop ?_)
  unfold Stop
  cases b
  · clear hb
    go_wp2_with fail
    go_ret
    exact ⟨rfl, HF.out.below (Nat.le_refl _) (by simp)⟩
  obtain ⟨m30, m8⟩ := hb.1 rfl
  have M8 := Lib.hid m8
  clear hb m8
  go_wp2_with (go_at_call 18; refine (hist_new _).mono ?_; rintro e w2 ⟨p, S0, rfl, h1, h2, h3⟩; refine go_stop ?_)
  unfold Stop
  have HS := Lib.hid h1
  have HG : Hid (∀ k ∈ S0, w.heap.size ≤ k) := Lib.hid (fun k hk => Nat.le_trans HF.out.size (h3 k hk))
  have HPR : Hid (∀ k ∈ S0, k ≠ pe) := Lib.hid (fun k hk => by have := h3 k hk; have := lt_of_block HX1.out; omega)
  have HF2 := Lib.hid (HF.out.trans h2 (by simp))
  have HX2 := Lib.hid (h2.keep HX1.out (by simp))
  clear h1 h2 h3 HF HX1
  go_wp2_with fail
  go_loopw [9] (fun i wr => ∃ (j : Nat) (S : List Nat) (H : HA), i = .int .i64 j ∧ j ≤ l0.length ∧ Hs wr p S H ∧ HOk H j ∧ H.hor = 0 ∧ (∀ k ∈ S, w.heap.size ≤ k) ∧ (∀ k ∈ S, k ≠ pe) ∧
    wr.heap[pe]? = some (.cells #[.string f, .string t, .int .i64 next, .bool once, .bool dead] 25 (0, 0)) ∧ Fr [] w wr) (fun i _ => l0.length - (intOf i).toNat)
  case atStart => exact ⟨0, S0, HA.zero, rfl, Nat.zero_le _, HS.out, HOk.zero, rfl, HG.out, HPR.out, HX2.out, HF2.out⟩
  case round =>
    clear HS HG HPR HX2 HF2
    obtain ⟨j, S, H, rfl, hj, hs, hok, hh0, hg, hne, hx, hf⟩ := hrel
    have HS := Lib.hid hs
    have OKJ := Lib.hid hok
    have HH0 := Lib.hid hh0
    have HG := Lib.hid hg
    have HN := Lib.hid hne
    have HX := Lib.hid hx
    have HF := Lib.hid hf
    clear hs hok hh0 hg hne hx hf
    by_cases h : j < l0.length
    · have t1 : decide ((j : Int) < (l0.length : Int)) = true := by simp; omega
      obtain ⟨d, hd⟩ : ∃ d, l0[j]? = some d := ⟨_, List.getElem?_eq_getElem h⟩
      obtain ⟨g, off, d1, e1, hg, l1', k1⟩ := DdIn.here HL0.out (by omega)
      cases e1
      obtain ⟨p0, p1, p2, po⟩ := k1 j d hd
      replace p1 := HF.out.cell p1 (by simp)
      have HO := Lib.hid po
      have HO8 := Lib.hid (H8.out d (List.mem_of_getElem? hd))
      obtain ⟨su, cu, hu, _, _⟩ := po.form
      rw [hu] at p1 HO
      clear hd k1 po hu p0 p2 hg
      go_wp2_with (go_at_call 19; refine (deed_app (n := j) _ d.ops HS.out OKJ.out (by omega) HF.out HG.out HO.out HO8.out).mono ?_; rintro e w4 ⟨v4, S4, rfl, h1, h2, h3, h4, h5, h6⟩; have HS4 := Lib.hid h1; have OK4 := Lib.hid h2; have HF4 := Lib.hid h3; have HG4 := Lib.hid h6; have HX4 := Lib.hid (h4.keep HX.out (fun hm => HN.out _ hm rfl)); have HN4 : Hid (∀ k ∈ S4, k ≠ pe) := Lib.hid (grow_ne h5 HN.out (lt_of_block HX.out)); clear h1 h2 h3 h4 h5 h6)
      go_roundw
      case rel => exact ⟨j + 1, S4, H.app d.ops, by go_num, by omega, HS4.out, OK4.out, HH0.out, HG4.out, HN4.out, HX4.out, HF4.out⟩
      case measure => simp [intOf]; omega
    · have t1 : decide ((j : Int) < (l0.length : Int)) = false := by simp; omega
      replace OKJ := Lib.hid (OKJ.out.mono (show j ≤ 30 by omega))
      clear h30
      obtain ⟨A, hA⟩ : ∃ A : Nat, A = H.rows.length := ⟨_, rfl⟩
      have hal : A ≤ 30 := by rw [hA]; exact OKJ.out.rev
      have HOP : Hid (Calls Try.prog 20 #[.pointer (some ⟨p, 0, none⟩), .agg #[.string f, .string t], .int .i64 0] wr fun e w' => ∃ s n c, e = .returned (.tuple #[.agg #[.string f, .string t, .int .i64 ((A : Int) + 1), .bool false, .bool false], .slice s n c, .int .i64 0]) ∧ LFar S Kv.cells 3 w' (.slice s n c) (restrictK f t (mapN H.rows A)) ∧ Fr [] wr w') := Lib.hid ((cur_open f t HS.out OKJ.out (by omega)).mono (by
        rintro e w' ⟨v, rfl, h1, h2⟩
        obtain ⟨s, c, hv, _, _⟩ := h1.form
        subst hv
        rw [← hA] at h1 ⊢
        exact ⟨s, _, c, rfl, h1, h2⟩))
      have HHR := Lib.hid fun W (hw : Fr [] wr W) => hist_rev (HS.out.keep hw (by simp))
      rw [← hA] at HHR
      have HAE := Lib.hid hA
      have hlt := Lib.hid HS.out.lt
      clear hA
      obtain ⟨x0, x1, x2, x3, x4, _⟩ := cells5 HX.out
      go_wp2_with (go_at_call 20; refine HOP.out.mono ?_; rintro e w3 ⟨s3, n3, c3, rfl, h1, h2⟩; refine go_stop ?_)
      unfold Stop
      have HM3 := Lib.hid h1
      have H23 := Lib.hid h2
      have hx3 := h2.keep HX.out (by simp)
      have HX3 := Lib.hid hx3
      obtain ⟨y0, y1, y2, y3, y4, _⟩ := cells5 hx3
      have hl3 := lt_of_block hx3
      have k1 : ¬ pe = w3.heap.size := by omega
      have k2 : ¬ w3.heap.size = pe := by omega
      clear h1 h2 hx3 x0 x1 x2 x3 x4 HOP
      have HRV := Lib.hid fun W (hw : Fr [] w3 W) => HHR.out W (H23.out.trans hw (by simp))
      go_wp2_with (go_at_call 21; refine go_stop ?_)
      unfold Stop
      obtain ⟨pc, hpc⟩ : ∃ pc, pc = w3.heap.size := ⟨_, rfl⟩
      have hc3 : (w3.alloc (.cells #[.string f, .string t, .int .i64 ((A : Int) + 1), .bool once, .bool false] 31)).heap[pc]? = some (.cells #[.string f, .string t, .int .i64 ((A : Int) + 1), .bool once, .bool false] 31 (0, 0)) := by rw [hpc]; exact new_block w3 _
      have hf3 : Fr [] w3 (w3.alloc (.cells #[.string f, .string t, .int .i64 ((A : Int) + 1), .bool once, .bool false] 31)) := (Fr.refl [] w3).alloc _
      have hpce : pe ≠ pc := by omega
      have hwpc : w.heap.size ≤ pc := by have := HF.out.size; have := H23.out.size; omega
      have HN3 : Hid (∀ k ∈ S, k ≠ pe ∧ k ≠ pc) := Lib.hid (fun k hk => ⟨HN.out k hk, by have := hlt.out k hk; have := H23.out.size; omega⟩)
      have HMP : Hid (∀ W, Fr [] w3 W → LFar ([pc] ++ S) Kv.cells 3 W (.slice s3 n3 c3) (restrictK f t (mapN H.rows A))) := Lib.hid (fun W hW => by
        have h1 := HM3.out.grow (S' := [pc] ++ S) (fun k hk => by
          rcases List.mem_append.1 hk with hk | hk
          · exact Or.inr (by simp at hk; omega)
          · exact Or.inl hk)
        exact h1.keep0 hW)
      rw [← hpc]
      clear k1 k2 y0 y1 y2 y3 y4 hpc hl3
      generalize w3.alloc (.cells #[.string f, .string t, .int .i64 ((A : Int) + 1), .bool once, .bool false] 31) = wl at hc3 hf3 ⊢
      refine (HRV.out wl hf3).mono ?_
      rintro e wn ⟨rfl, rfl⟩
      have HCL := Lib.hid hc3
      have HSL := Lib.hid ((HS.out.keep H23.out (by simp)).keep hf3 (by simp))
      have HXL := Lib.hid (hf3.keep HX3.out (by simp))
      have HML := Lib.hid (HMP.out wl hf3)
      have HFL := Lib.hid ((HF.out.trans H23.out (by simp)).trans hf3 (by simp))
      have HPCE := Lib.hid hpce
      have HWPC := Lib.hid hwpc
      clear hc3 hf3 HMP HM3 H23 HX3 HRV HHR HS HX HF HN hlt hpce hwpc
      go_wp2_with fail
      go_loopw [11, 13, 14] (fun mv av iv wr => ∃ (j A : Nat) (S : List Nat) (H : HA), av = .int .i64 A ∧ iv = .int .i64 j ∧ j ≤ l1.length ∧ Hs wr p S H ∧ HOk H (30 + j) ∧ A ≤ H.rows.length ∧ LFar ([pc] ++ S) Kv.cells 3 wr mv (restrictK f t (mapN H.rows A)) ∧ (∀ k ∈ S, w.heap.size ≤ k) ∧ (∀ k ∈ S, k ≠ pe ∧ k ≠ pc) ∧
        wr.heap[pe]? = some (.cells #[.string f, .string t, .int .i64 next, .bool once, .bool dead] 25 (0, 0)) ∧ wr.heap[pc]? = some (.cells #[.string f, .string t, .int .i64 ((A : Int) + 1), .bool once, .bool false] 31 (0, 0)) ∧ Fr [] w wr) (fun _ _ i _ => l1.length - (intOf i).toNat)
      case atStart => exact ⟨0, A, S, H, rfl, rfl, Nat.zero_le _, HSL.out, OKJ.out, by rw [HAE.out]; exact Nat.le_refl _, HML.out, HG.out, HN3.out, HXL.out, HCL.out, HFL.out⟩
      case round =>
        clear HSL OKJ HAE HML HG HN3 HXL HCL HFL HH0 hal
        obtain ⟨j2, A2, S2, H2, rfl, rfl, hj2, hs, hok, hA, hm, hg, hne, hx, hc, hf⟩ := hrel
        have HS := Lib.hid hs
        have OKJ := Lib.hid hok
        have HA2 := Lib.hid hA
        have HM := Lib.hid hm
        have HG := Lib.hid hg
        have HN := Lib.hid hne
        have HX := Lib.hid hx
        have HC := Lib.hid hc
        have HF := Lib.hid hf
        have hAn : A2 ≤ 100 := by have := hok.rev; omega
        clear hs hok hA hm hg hne hx hc hf
        by_cases h2 : j2 < l1.length
        · have t2 : decide ((j2 : Int) < (l1.length : Int)) = true := by simp; omega
          obtain ⟨d, hd⟩ : ∃ d, l1[j2]? = some d := ⟨_, List.getElem?_eq_getElem h2⟩
          obtain ⟨g, off, d1, e1, hg, l1', k1⟩ := DdIn.here HL1.out (by omega)
          cases e1
          obtain ⟨p0, p1, p2, po⟩ := k1 j2 d hd
          replace p0 := HF.out.cell p0 (by simp)
          replace p1 := HF.out.cell p1 (by simp)
          replace p2 := HF.out.cell p2 (by simp)
          have P2 := Lib.hid p2
          have HGL := Lib.hid hg
          have HO := Lib.hid po
          have HO8 := Lib.hid (M8.out d (List.mem_of_getElem? hd))
          obtain ⟨su, cu, hu, _, _⟩ := po.form
          rw [hu] at p1 HO
          clear hd k1 po hu hg
          by_cases hk1 : d.kind = 1
          · have t3 : (d.kind == 1) = true := by simpa using hk1
            clear hk1 p2
            go_wp2_with (go_at_call 19; refine (deed_app (n := 30 + j2) _ d.ops HS.out OKJ.out (by omega) HF.out HG.out HO.out HO8.out).mono ?_; rintro e w4 ⟨v4, S4, rfl, h1, h2, h3, h4, h5, h6⟩; have HS4 := Lib.hid h1; have OK4 := Lib.hid h2; have HF4 := Lib.hid h3; have HG4 := Lib.hid h6; have HX4 := Lib.hid (h4.keep HX.out (fun hm => (HN.out _ hm).1 rfl)); have HC4 := Lib.hid (h4.keep HC.out (fun hm => (HN.out _ hm).2 rfl)); have HN4 : Hid (∀ k ∈ S4, k ≠ pe ∧ k ≠ pc) := Lib.hid (fun k hk => ⟨grow_ne h5 (fun k hk => (HN.out k hk).1) (lt_of_block HX.out) k hk, grow_ne h5 (fun k hk => (HN.out k hk).2) (lt_of_block HC.out) k hk⟩); have HM4 := Lib.hid (HM.out.step (h4.mono (fun k hk => Or.inl (List.mem_append.2 (Or.inr hk)))) (show Grow ([pc] ++ S2) ([pc] ++ S4) _ from fun k hk => by
              rcases List.mem_append.1 hk with hk | hk
              · exact Or.inl (List.mem_append.2 (Or.inl hk))
              · exact (h5 k hk).imp (fun h => List.mem_append.2 (Or.inr h)) id)); clear h1 h2 h3 h4 h5 h6)
            have hlat := HLater.app H2 d.ops
            go_roundw
            case rel => exact ⟨j2 + 1, A2, S4, H2.app d.ops, rfl, by go_num, by omega, HS4.out, OK4.out, Nat.le_trans HA2.out hlat.len, by rw [hlat.map A2 HA2.out]; exact HM4.out, HG4.out, HN4.out, HX4.out, HC4.out, HF4.out⟩
            case measure => simp [intOf]; omega
          · have t3 : (d.kind == 1) = false := by simpa using hk1
            by_cases hk2 : d.kind = 2
            · have t4 : (d.kind == 2) = true := by simpa using hk2
              clear hk1 hk2 p1
              have HTO := Lib.hid fun W => cur_token ⟨f, t, (A2 : Int) + 1, once, false⟩ W
              have HRE := Lib.hid fun W => cur_resume f t ((A2 : Int) + 1) once W
              unfold Cu.val at HTO HRE
              go_wp2_with (go_at_call 22; refine (deed_com (n := 30 + j2) d.rev HS.out OKJ.out (by omega) HF.out HG.out).mono ?_; rintro e w4 ⟨S4, rfl, h1, h2, h3, h4, h5, h6⟩; refine go_stop ?_)
              unfold Stop
              have HS4 := Lib.hid h1
              have OK4 := Lib.hid (h2.mono (show 30 + j2 ≤ 30 + (j2 + 1) by omega))
              have HF4 := Lib.hid h3
              have HG4 := Lib.hid h6
              have HX4 := Lib.hid (h4.keep HX.out (fun hm => (HN.out _ hm).1 rfl))
              have HC4 := Lib.hid (h4.keep HC.out (fun hm => (HN.out _ hm).2 rfl))
              have HN4 : Hid (∀ k ∈ S4, k ≠ pe ∧ k ≠ pc) := Lib.hid (fun k hk => ⟨grow_ne h5 (fun k hk => (HN.out k hk).1) (lt_of_block HX.out) k hk, grow_ne h5 (fun k hk => (HN.out k hk).2) (lt_of_block HC.out) k hk⟩)
              have HM4 := Lib.hid (HM.out.step (h4.mono (fun k hk => Or.inl (List.mem_append.2 (Or.inr hk)))) (show Grow ([pc] ++ S2) ([pc] ++ S4) _ from fun k hk => by
                rcases List.mem_append.1 hk with hk | hk
                · exact Or.inl (List.mem_append.2 (Or.inl hk))
                · exact (h5 k hk).imp (fun h => List.mem_append.2 (Or.inr h)) id))
              obtain ⟨b0, b1, b2, b3, b4, _⟩ := cells5 HC4.out
              clear h1 h2 h3 h4 h5 h6 p0 p2
              go_wp2_with (first
                | (go_at_call 24; refine (HTO.out _).mono ?_; rintro e w5 ⟨rfl, h⟩; have G5 := Lib.hid h; clear h)
                | (go_at_call 23; refine (HRE.out _).mono ?_; rintro e w6 ⟨rfl, h⟩; have G6 := Lib.hid (G5.out.trans h (by simp)); obtain ⟨y0, y1, y2, y3, y4, yf⟩ := cells5 (G6.out.keep HC4.out (by simp)); have yf0 := yf 0; have yf1 := yf 1; have yf2 := yf 2; have yf3 := yf 3; have yf4 := yf 4; clear h yf))
              have hst : Fr [pc] w6 (((((w6.setCell ⟨pc, 0, none⟩ (.string (Cu.mk f t ((A2 : Int) + 1) once false).f)).setCell ⟨pc, 1, none⟩ (.string (Cu.mk f t ((A2 : Int) + 1) once false).t)).setCell ⟨pc, 2, none⟩ (.int .i64 (Cu.mk f t ((A2 : Int) + 1) once false).next)).setCell ⟨pc, 3, none⟩ (.bool (Cu.mk f t ((A2 : Int) + 1) once false).once)).setCell ⟨pc, 4, none⟩ (.bool (Cu.mk f t ((A2 : Int) + 1) once false).dead)) := (by with_reducible (repeat (first | exact Fr.refl _ _ | refine Fr.drew ?_ | refine Fr.setCell ?_ (Or.inl (by simp)) _)))
              have hlat := HLater.com H2 d.rev
              go_roundw
              case rel =>
                refine ⟨j2 + 1, A2, S4, H2.com d.rev, rfl, by go_num, by omega, (HS4.out.keep G6.out (by simp)).keep hst (fun k hk hm => (HN4.out k hk).2 (by simpa using hm)), OK4.out, Nat.le_trans HA2.out hlat.len, ?_, HG4.out, HN4.out, ?_, ?_, (HF4.out.trans G6.out (by simp)).trans hst (fun k hk => Or.inr (by have := HWPC.out; simp at hk; omega))⟩
                · rw [hlat.map A2 HA2.out]
                  exact (HM4.out.keep0 G6.out).keep (hst.mono (fun k hk => Or.inl (List.mem_append.2 (Or.inl hk))))
                · exact hst.keep (G6.out.keep HX4.out (by simp)) (by simpa using HPCE.out)
                · exact set5_block (G6.out.keep HC4.out (by simp)) _ _ _ _ _
              case measure => simp [intOf]; omega
            · have t4 : (d.kind == 2) = false := by simpa using hk2
              clear hk1 hk2 p1
              obtain ⟨C, hC⟩ : ∃ C : Cu, C = ⟨f, t, (A2 : Int) + 1, once, false⟩ := ⟨_, rfl⟩
              obtain ⟨D, hD⟩ : ∃ D, D = C.pollC H2 d.rev := ⟨_, rfl⟩
              obtain ⟨N, hN⟩ : ∃ N, N = C.pollN H2 d.rev := ⟨_, rfl⟩
              have HPO : Hid (∀ W, Fr [] wr W → Calls Try.prog 25 #[.agg #[.string f, .string t, .int .i64 ((A2 : Int) + 1), .bool once, .bool false], .pointer (some ⟨p, 0, none⟩), .int .i64 d.rev] W fun e w' => ∃ s c, e = .returned (.tuple #[.agg #[.string D.f, .string D.t, .int .i64 D.next, .bool D.once, .bool D.dead], .agg #[.int .i64 N.err, .int .i64 N.hor, .int .i64 N.upto, .slice s N.rows.length c]]) ∧ PollW pc wr W.heap.size w' N s c ∧ Fr [] W w') := Lib.hid (fun W hW => (cur_poll _ ⟨f, t, (A2 : Int) + 1, once, false⟩ d.rev (HS.out.keep hW (by simp)) OKJ.out (by omega) (newT (lt_of_block HC.out) hW) ⟨by show -1500000000000 ≤ (A2 : Int) + 1; omega, by show (A2 : Int) + 1 ≤ 1500000000000; omega⟩).mono (by
                rintro e w' ⟨v, rfl, h1, h2⟩
                rw [← hC] at h1 ⊢
                rw [← hN] at h1
                obtain ⟨s, c, hv, _, _⟩ := h1.form
                subst hv
                rw [← hD, ← hN]
                exact ⟨s, c, rfl, ⟨h1, hW.trans h2 (by simp)⟩, h2⟩))
              have HCE := Lib.hid hC
              have HDE := Lib.hid hD
              have HNE := Lib.hid hN
              clear hC hD hN p2
              have hpl := lt_of_block HC.out
              have HPL := Lib.hid hpl
              obtain ⟨b0, b1, b2, b3, b4, _⟩ := cells5 HC.out
              have z1 : ¬ pc = wr.heap.size := by omega
              have z2 : ¬ wr.heap.size = pc := by omega
              have z3 : ¬ pc = wr.heap.size + 1 := by omega
              have z4 : ¬ wr.heap.size + 1 = pc := by omega
              go_upto_region 22 with fail
              go_cut [15, 16] (fun v15 v16 wc => PollFin pc wr D N v15 v16 wc)
              case first =>
                have p2 := P2.out
                have gl := HGL.out
                have g1 : ¬ g = wr.heap.size := by have := HF.out.size; omega
                have g2 : ¬ wr.heap.size = g := by have := HF.out.size; omega
                have g3 : ¬ g = wr.heap.size + 1 := by have := HF.out.size; omega
                have g4 : ¬ wr.heap.size + 1 = g := by have := HF.out.size; omega
                go_region_held3 (fun W => W.cell? ⟨pc, 0, none⟩ = some (.string f) ∧ W.cell? ⟨pc, 1, none⟩ = some (.string t) ∧ W.cell? ⟨pc, 2, none⟩ = some (.int .i64 ((A2 : Int) + 1)) ∧ W.cell? ⟨pc, 3, none⟩ = some (.bool once) ∧ W.cell? ⟨pc, 4, none⟩ = some (.bool false) ∧ W.cell? ⟨g, off + j2 * 3 + 2, none⟩ = some (.int .i64 d.rev)) (go_keep) (first | (go_at_call 25; refine (HPO.out _ (by with_reducible (repeat (first | exact Fr.refl _ _ | refine Fr.drew ?_ | refine Fr.alloc ?_ _)))).mono ?_; rintro e w5 ⟨s5, c5, rfl, h1, h2⟩; have HP1 := Lib.hid h1.at1; obtain ⟨b0, b1, b2, b3, b4, _⟩ := cells5 (h1.2.keep HC.out (by simp)); have p2 := h1.2.cell P2.out (by simp); have y1 : ¬ pc = w5.heap.size := (by have := h1.2.size; omega); have y2 : ¬ w5.heap.size = pc := (by have := h1.2.size; omega); have y3 : ¬ pc = w5.heap.size + 1 := (by have := h1.2.size; omega); have y4 : ¬ w5.heap.size + 1 = pc := (by have := h1.2.size; omega); (first | (have hz := h2.keep (p := wr.heap.size) (o := .cells #[.string ⟨#[]⟩, .string ⟨#[]⟩, .int .i64 0, .bool false, .bool false] 31 (0, 0)) (by with_reducible exact drew_block (new_block wr _)) (by simp); have HZ := Lib.hid hz; obtain ⟨d0, d1, d2, d3, d4, df⟩ := cells5 hz; have df0 := df 0; have df1 := df 1; have df2 := df 2; have df3 := df 3; have df4 := df 4; have lz := lt_of_block hz; have u1 : ¬ wr.heap.size = w5.heap.size := (by omega); have u2 : ¬ w5.heap.size = wr.heap.size := (by omega); clear df hz; have HP2 := Lib.hid (h1.at2 (Nat.le_refl wr.heap.size) (by simp))) | (have hy := h2.keep (p := wr.heap.size) (o := .cells #[.int .i64 0, .int .i64 0, .int .i64 0, .slice none 0 0] 34 (0, 0)) (by with_reducible exact drew_block (new_block wr _)) (by simp); have HY := Lib.hid hy; obtain ⟨e0, e1, e2, e3, ef⟩ := cells4 hy; have ef0 := ef 0; have ef1 := ef 1; have ef2 := ef 2; have ef3 := ef 3; have ly := lt_of_block hy; have u3 : ¬ wr.heap.size = w5.heap.size := (by omega); have u4 : ¬ w5.heap.size = wr.heap.size := (by omega); clear ef hy; have HP2 := Lib.hid (h1.at2 (Nat.le_refl wr.heap.size) (by simp))) | (have hz := h2.keep (p := wr.heap.size) (o := .cells #[.string ⟨#[]⟩, .string ⟨#[]⟩, .int .i64 0, .bool false, .bool false] 31 (0, 0)) (by with_reducible exact drew_block (blk_new2 wr _ _)) (by simp); have HZ := Lib.hid hz; obtain ⟨d0, d1, d2, d3, d4, df⟩ := cells5 hz; have df0 := df 0; have df1 := df 1; have df2 := df 2; have df3 := df 3; have df4 := df 4; have lz := lt_of_block hz; have u1 : ¬ wr.heap.size = w5.heap.size := (by omega); have u2 : ¬ w5.heap.size = wr.heap.size := (by omega); clear df hz; have hy := h2.keep (p := wr.heap.size + 1) (o := .cells #[.int .i64 0, .int .i64 0, .int .i64 0, .slice none 0 0] 34 (0, 0)) (by with_reducible exact drew_block (nblk_at (by simp))) (by simp); have HY := Lib.hid hy; obtain ⟨e0, e1, e2, e3, ef⟩ := cells4 hy; have ef0 := ef 0; have ef1 := ef 1; have ef2 := ef 2; have ef3 := ef 3; have ly := lt_of_block hy; have u3 : ¬ wr.heap.size + 1 = w5.heap.size := (by omega); have u4 : ¬ w5.heap.size = wr.heap.size + 1 := (by omega); clear ef hy; have HP3 := Lib.hid (h1.at3 (q := wr.heap.size) (q' := wr.heap.size + 1) (by omega) (by simp; try omega) (by omega) (by simp; try omega))) | (have hy := h2.keep (p := wr.heap.size) (o := .cells #[.int .i64 0, .int .i64 0, .int .i64 0, .slice none 0 0] 34 (0, 0)) (by with_reducible exact drew_block (blk_new2 wr _ _)) (by simp); have HY := Lib.hid hy; obtain ⟨e0, e1, e2, e3, ef⟩ := cells4 hy; have ef0 := ef 0; have ef1 := ef 1; have ef2 := ef 2; have ef3 := ef 3; have ly := lt_of_block hy; have u3 : ¬ wr.heap.size = w5.heap.size := (by omega); have u4 : ¬ w5.heap.size = wr.heap.size := (by omega); clear ef hy; have hz := h2.keep (p := wr.heap.size + 1) (o := .cells #[.string ⟨#[]⟩, .string ⟨#[]⟩, .int .i64 0, .bool false, .bool false] 31 (0, 0)) (by with_reducible exact drew_block (nblk_at (by simp))) (by simp); have HZ := Lib.hid hz; obtain ⟨d0, d1, d2, d3, d4, df⟩ := cells5 hz; have df0 := df 0; have df1 := df 1; have df2 := df 2; have df3 := df 3; have df4 := df 4; have lz := lt_of_block hz; have u1 : ¬ wr.heap.size + 1 = w5.heap.size := (by omega); have u2 : ¬ w5.heap.size = wr.heap.size + 1 := (by omega); clear df hz; have HP3 := Lib.hid (h1.at3 (q := wr.heap.size + 1) (q' := wr.heap.size) (by omega) (by simp; try omega) (by omega) (by simp; try omega))) | (skip)); clear h1 h2))
                all_goals go_wp2_with fail
                all_goals go_meet
                all_goals
                  first
                    | with_reducible exact pfin1 HP1.out HPL.out
                    | with_reducible exact (pfin1 HP1.out HPL.out).drew
                    | with_reducible exact pfin2 HP1.out HPL.out
                    | with_reducible exact (pfin2 HP1.out HPL.out).drew
                    | with_reducible exact pfin3 HP2.out HPL.out (Nat.le_refl _) HZ.out
                    | with_reducible exact (pfin3 HP2.out HPL.out (Nat.le_refl _) HZ.out).drew
                    | with_reducible exact pfin4 HP2.out HPL.out (Nat.le_refl _) HY.out
                    | with_reducible exact (pfin4 HP2.out HPL.out (Nat.le_refl _) HY.out).drew
                    | with_reducible exact pfin5 HP3.out HPL.out (by omega) (by omega) (by omega) HZ.out HY.out
                    | with_reducible exact (pfin5 HP3.out HPL.out (by omega) (by omega) (by omega) HZ.out HY.out).drew
                    | with_reducible exact pfin6 HP3.out HPL.out (by omega) (by omega) (by omega) HZ.out HY.out
                    | with_reducible exact (pfin6 HP3.out HPL.out (by omega) (by omega) (by omega) HZ.out HY.out).drew
              case rest =>
                obtain ⟨qd, qn, s5, c5, rfl, rfl, hx, hy, e1, e2, e3, hr, hf5⟩ := hcut
                have HC5 := Lib.hid (hf5.keep HC.out (by simp))
                have HX5 := Lib.hid (hf5.keep HX.out (by simp))
                have HS5 := Lib.hid (HS.out.keep hf5 (by simp))
                have HM5 := Lib.hid (HM.out.keep0 hf5)
                have HF5 := Lib.hid (HF.out.trans hf5 (by simp))
                have HQ := Lib.hid hx
                have HNB := Lib.hid hy
                have HR5 := Lib.hid hr
                have n1 : ¬ pc = qn := fun h => e2 h.symm
                have n2 : ¬ qn = pc := e2
                have n3 : ¬ pc = qd := fun h => e1 h.symm
                have n4 : ¬ qd = pc := e1
                clear hx hy hr hf5 HC HX HS HM HF HPO e1 e2 e3 b0 b1 b2 b3 b4 z1 z2 z3 z4 hpl
                by_cases ho : A2 < H2.hor
                · have hop := old_poll (C := ⟨f, t, (A2 : Int) + 1, once, false⟩) (H := H2) rfl (by show (A2 : Int) + 1 ≤ H2.hor; omega) d.rev
                  have hDe : D = ⟨f, t, (A2 : Int) + 1, once, true⟩ := by rw [HDE.out, HCE.out]; exact hop.1
                  have hNe : N = ⟨5, H2.hor, 0, []⟩ := by rw [HNE.out, HCE.out]; exact hop.2
                  have hxd := HQ.out
                  have hnb := HNB.out
                  rw [hDe] at hxd
                  rw [hNe] at hnb
                  dsimp only [List.length_nil] at hxd hnb
                  obtain ⟨d0, d1, d2, d3, d4, _⟩ := cells5 hxd
                  obtain ⟨m0, m1, m2, m3, _⟩ := cells4 hnb
                  obtain ⟨b0, b1, b2, b3, b4, bf⟩ := cells5 HC5.out
                  have bf0 := bf 0
                  have bf1 := bf 1
                  have bf2 := bf 2
                  have bf3 := bf 3
                  have bf4 := bf 4
                  have HND := Lib.hid hnb
                  have t5 : decide ((A2 : Int) < (H2.hor : Int)) = true := by simp; omega
                  have t5n : decide (A2 < H2.hor) = true := by simp; omega
                  clear hop hDe hNe hxd hnb bf HCE HDE HNE HQ HNB HR5 HM5 HX5 ho
                  go_upto_region 25 with fail
                  obtain ⟨wS, hwS⟩ : ∃ x, x = (((((wc.setCell ⟨pc, 0, none⟩ (.string f)).setCell ⟨pc, 1, none⟩ (.string t)).setCell ⟨pc, 2, none⟩ (.int .i64 ((A2 : Int) + 1))).setCell ⟨pc, 3, none⟩ (.bool once)).setCell ⟨pc, 4, none⟩ (.bool true)) := ⟨_, rfl⟩
                  have hfS : Fr [pc] wc wS := by rw [hwS]; with_reducible (repeat (first | exact Fr.refl _ _ | refine Fr.setCell ?_ (Or.inl (by simp)) _))
                  have hcS : wS.heap[pc]? = some (.cells #[.string f, .string t, .int .i64 ((A2 : Int) + 1), .bool once, .bool true] 31 (0, 0)) := by rw [hwS]; exact set5_block HC5.out _ _ _ _ _
                  have hnS := hfS.keep HND.out (by simpa using n2)
                  rw [← hwS]
                  have HSS := Lib.hid (HS5.out.keep hfS (fun k hk hm => (HN.out k hk).2 (by simpa using hm)))
                  have HFS : Hid (Fr [] w wS) := Lib.hid (HF5.out.trans hfS (fun k hk => Or.inr (by have := HWPC.out; simp at hk; omega)))
                  obtain ⟨a0, a1, a2, a3, a4, _⟩ := cells5 hcS
                  clear d0 d1 d2 d3 d4 m0 m1 m2 m3 b0 b1 b2 b3 b4 bf0 bf1 bf2 bf3 bf4
                  obtain ⟨m0, m1, m2, m3, _⟩ := cells4 hnS
                  have HHR : Hid (∀ W, Fr [] wS W → Calls Try.prog 26 #[.pointer (some ⟨p, 0, none⟩)] W fun e w' => e = .returned (.int .i64 H2.hor) ∧ Fr [] W w') := Lib.hid (fun W hW => (hist_hor (HSS.out.keep hW (by simp))).mono (by
                    rintro e w' ⟨rfl, rfl⟩
                    exact ⟨rfl, Fr.refl _ _⟩))
                  have Aa4 := fun n : After [] wS => n.cell a4 (by simp)
                  have Am0 := fun n : After [] wS => n.cell m0 (by simp)
                  have Am1 := fun n : After [] wS => n.cell m1 (by simp)
                  clear hfS hcS hnS hwS
                  refine wp_region_after [] (by kernel_rfl) (by kernel_rfl) ?_
                  repeat (go_big_quiet_step ((go_at_call 26; exact After.quiet (HHR.out _ (After.fr _)))))
                  refine wpQuiet_nil ?_
                  rintro _ ⟨nq, rfl⟩
                  go_wp2_with fail
                  go_ret
                  exact ⟨rfl, (HFS.out.trans nq.fr (by simp)).below (Nat.le_refl _) (by simp)⟩
                · have hlv : Live ⟨f, t, (A2 : Int) + 1, once, false⟩ H2 A2 := ⟨rfl, rfl, by omega, HA2.out⟩
                  obtain ⟨n, hn⟩ : ∃ n, n = Cu.n ⟨f, t, (A2 : Int) + 1, once, false⟩ H2 d.rev := ⟨_, rfl⟩
                  obtain ⟨R, hR⟩ : ∃ R, R = Cu.tell ⟨f, t, (A2 : Int) + 1, once, false⟩ (Cu.got ⟨f, t, (A2 : Int) + 1, once, false⟩ H2 d.rev) := ⟨_, rfl⟩
                  obtain ⟨U, hU⟩ : ∃ U : Nat, U = A2 + n := ⟨_, rfl⟩
                  have hDe : D = ⟨f, t, (U : Int) + 1, once, false⟩ := by
                    rw [HDE.out, HCE.out, hlv.pollC, ← hn, hU]
                    show Cu.mk f t ((A2 : Int) + 1 + n) once false = _
                    rw [show (A2 : Int) + 1 + n = ((A2 + n : Nat) : Int) + 1 by omega]
                  have hNe : N = ⟨0, 0, (U : Int), R⟩ := by
                    rw [HNE.out, HCE.out, hlv.pollN, ← hn, ← hR, hU]
                    rw [show (A2 : Int) + n = ((A2 + n : Nat) : Int) by omega]
                  have hnle : U ≤ H2.rows.length := by rw [hU, hn]; exact hlv.n_le _
                  have hne : ∀ r ∈ R, r ≠ [] := by rw [hR]; exact tell_ne
                  have hfo : foldK (restrictK f t (mapN H2.rows A2)) R.flatten = restrictK f t (mapN H2.rows U) := by rw [hR, hU, hn]; exact hlv.fold _
                  have hri : once = false → Rises R ∧ ∀ r ∈ R, ∀ x ∈ r, (A2 : Int) < x.rev := fun h => by
                    have h1 := hlv.rises HS5.out.1 d.rev
                    rw [hR, full_tell h]; exact h1
                  have hfl : H2.rows.flatten.length ≤ 1200 := by have := OKJ.out.flat; omega
                  have hRf : R.flatten.length ≤ 1200 := by
                    rw [hR]
                    refine Nat.le_trans (tell_len _ _) ?_
                    rw [hlv.got_eq]
                    exact Nat.le_trans (want_few f t _ _ _) hfl
                  have hRl : R.length ≤ 200 := by
                    have h1 := tell_rows ⟨f, t, (A2 : Int) + 1, once, false⟩ (Cu.got ⟨f, t, (A2 : Int) + 1, once, false⟩ H2 d.rev)
                    rw [← hR, hlv.len, ← hn] at h1
                    have := OKJ.out.rev
                    omega
                  have hml : (restrictK f t (mapN H2.rows A2)).length ≤ 1200 := Nat.le_trans (List.length_filter_le _ _) (Nat.le_trans (mapN_len _ _) hfl)
                  obtain ⟨m9, hm9⟩ : ∃ m9, m9 = restrictK f t (mapN H2.rows A2) := ⟨_, rfl⟩
                  obtain ⟨K9, hK9⟩ : ∃ K9, K9 = restrictK f t (mapN H2.rows U) := ⟨_, rfl⟩
                  rw [← hm9] at hfo hml HM5
                  rw [← hK9] at hfo
                  have hUA : A2 ≤ U := by omega
                  have hxd := HQ.out
                  have hnb := HNB.out
                  have hrr := HR5.out
                  rw [hDe] at hxd
                  rw [hNe] at hnb hrr
                  dsimp only at hxd hnb hrr
                  have HUL := Lib.hid hnle
                  have HNX := Lib.hid hne
                  have HFO := Lib.hid hfo
                  have HRI := Lib.hid hri
                  have HRFL := Lib.hid hRf
                  have HML := Lib.hid hml
                  have HK9 := Lib.hid hK9
                  have HUA := Lib.hid hUA
                  have HND := Lib.hid hnb
                  obtain ⟨d0, d1, d2, d3, d4, _⟩ := cells5 hxd
                  obtain ⟨m0, m1, m2, m3, _⟩ := cells4 hnb
                  obtain ⟨b0, b1, b2, b3, b4, bf⟩ := cells5 HC5.out
                  have bf0 := bf 0
                  have bf1 := bf 1
                  have bf2 := bf 2
                  have bf3 := bf 3
                  have bf4 := bf 4
                  have HRR := Lib.hid hrr
                  have HAO : Hid (H2.hor ≤ A2) := Lib.hid (by omega)
                  clear hlv hn hR hDe hNe hnle hne hfo hri hfl hRf hml hm9 hK9 hxd hnb hrr hU HCE HDE HNE HQ HNB HR5 bf ho hUA
                  go_wp2_with fail
                  obtain ⟨wS, hwS⟩ : ∃ x, x = (((((wc.setCell ⟨pc, 0, none⟩ (.string f)).setCell ⟨pc, 1, none⟩ (.string t)).setCell ⟨pc, 2, none⟩ (.int .i64 ((U : Int) + 1))).setCell ⟨pc, 3, none⟩ (.bool once)).setCell ⟨pc, 4, none⟩ (.bool false)) := ⟨_, rfl⟩
                  have hfS : Fr [pc] wc wS := by rw [hwS]; with_reducible (repeat (first | exact Fr.refl _ _ | refine Fr.setCell ?_ (Or.inl (by simp)) _))
                  have hcS : wS.heap[pc]? = some (.cells #[.string f, .string t, .int .i64 ((U : Int) + 1), .bool once, .bool false] 31 (0, 0)) := by rw [hwS]; exact set5_block HC5.out _ _ _ _ _
                  have hnS := hfS.keep HND.out (by simpa using n2)
                  rw [← hwS]
                  have HSS := Lib.hid (HS5.out.keep hfS (fun k hk hm => (HN.out k hk).2 (by simpa using hm)))
                  have HFS : Hid (Fr [] w wS) := Lib.hid (HF5.out.trans hfS (fun k hk => Or.inr (by have := HWPC.out; simp at hk; omega)))
                  have HXS := Lib.hid (hfS.keep HX5.out (by have := HPCE.out; simpa using this))
                  have HMS := Lib.hid (HM5.out.keep (hfS.mono (fun k hk => Or.inl (List.mem_append.2 (Or.inl hk)))))
                  have HRS := Lib.hid (HRR.out.keep hfS)
                  have HCS := Lib.hid hcS
                  have HNS := Lib.hid hnS
                  have HSZ : Hid (∀ k ∈ [pc] ++ S2, k < wS.heap.size) := Lib.hid (fun k hk => by
                    rcases List.mem_append.1 hk with hk | hk
                    · have := lt_of_block hcS; simp at hk; omega
                    · exact HSS.out.lt k hk)
                  clear d0 d1 d2 d3 d4 m0 m1 m2 m3 b0 b1 b2 b3 b4 bf0 bf1 bf2 bf3 bf4 hfS hcS hnS hwS HX5 HM5 HS5 HF5 HND HRR HC5
                  go_loopw [11, 17, 18] (fun mv av kv wy => ∃ (q : Nat) (z : Int), av = .int .i64 z ∧ kv = .int .i64 q ∧ q ≤ R.length ∧ LFar ([pc] ++ S2) Kv.cells 3 wy mv (foldK m9 (R.take q).flatten) ∧ (once = false → ∀ r ∈ R.drop q, ∀ x ∈ r, z < x.rev) ∧ Fr [] wS wy) (fun _ _ k _ => R.length - (intOf k).toNat)
                  case atStart => exact ⟨0, (A2 : Int), rfl, rfl, Nat.zero_le _, HMS.out, fun h => (HRI.out h).2, Fr.refl _ _⟩
                  case round =>
                    clear HMS
                    obtain ⟨q, z, rfl, rfl, hq, hm, hz, hf⟩ := hrel
                    obtain ⟨sm, cm, hvm, _, _⟩ := hm.form
                    subst hvm
                    have HM := Lib.hid hm
                    have HZ := Lib.hid hz
                    have HFy := Lib.hid hf
                    obtain ⟨m0, m1, m2, m3, _⟩ := cells4 (hf.keep HNS.out (by simp))
                    obtain ⟨x0, x1, x2, x3, x4, _⟩ := cells5 (hf.keep HXS.out (by simp))
                    clear hm hz hf
                    by_cases hqR : q < R.length
                    · have t6 : decide ((q : Int) < (R.length : Int)) = true := by simp; omega
                      obtain ⟨x, hx⟩ : ∃ x, R[q]? = some x := ⟨_, List.getElem?_eq_getElem hqR⟩
                      have hxn := HNX.out x (List.mem_of_getElem? hx)
                      have hx0 : 0 < x.length := List.length_pos_iff.2 hxn
                      obtain ⟨y, hy⟩ : ∃ y, x[0]? = some y := ⟨_, List.getElem?_eq_getElem hx0⟩
                      obtain ⟨g', off', c', e1, hlt', k1⟩ := RowsF.here (HRS.out.keep0 HFy.out) (by omega)
                      simp only [Value.slice.injEq] at e1
                      obtain ⟨rfl, _, rfl⟩ := e1
                      obtain ⟨u, hu, hur⟩ := k1 q x hx
                      have HUR := Lib.hid hur
                      obtain ⟨gx, ox, cx, hux, hgx, _, k2⟩ := EvIn.here hur.lin hx0
                      subst hux
                      obtain ⟨p0, p1, p2, p3⟩ := k2 0 y hy
                      simp only [Nat.zero_mul, Nat.add_zero] at p0
                      have t7 : ((x.length : Int) == 0) = false := by simp; omega
                      have t8 : (0 : Nat) < x.length := hx0
                      have HXX := Lib.hid hx
                      have HYY := Lib.hid hy
                      have hxl : x.length ≤ 1200 := by
                        have h3 := take_flat R (q + 1)
                        rw [flat_step hx, List.length_append] at h3
                        have := HRFL.out
                        omega
                      have HXL := Lib.hid hxl
                      have HBM : Hid ((foldK m9 (R.take q).flatten).length ≤ many) := Lib.hid (by
                        have h1 := foldK_len (R.take q).flatten m9
                        have h3 := take_flat R q
                        have := HRFL.out
                        have := HML.out
                        unfold many; omega)
                      have HFD := Lib.hid (rfold_far ([pc] ++ S2) _ _ _ x _ HM.out (fun k hk => by have := HSZ.out k hk; have := HFy.out.size; omega) HUR.out.lin HBM.out (by have := HXL.out; unfold many; omega))
                      have HZN : Hid (once = false → z < y.rev ∧ ∀ r ∈ R.drop (q + 1), ∀ e ∈ r, y.rev < e.rev) := Lib.hid (fun h => by
                        refine ⟨HZ.out h x ?_ y (List.mem_of_getElem? hy), (HRI.out h).1.next hx hy⟩
                        obtain ⟨hl, rfl⟩ := List.getElem?_eq_some_iff.1 hx
                        rw [List.drop_eq_getElem_cons hl]
                        exact List.mem_cons_self)
                      clear hx hy hxn hx0 k1 hur k2 hxl p1 p2 p3
                      cases once with
                      | true =>
                        go_wp2_with (go_at_call 27; refine HFD.out.mono ?_; rintro e w8 ⟨v8, rfl, h1, h2⟩; have HM8 := Lib.hid h1; have HF8 := Lib.hid (HFy.out.trans h2 (by simp)); clear h1 h2)
                        go_roundw
                        case rel => exact ⟨q + 1, y.rev, rfl, by go_num, by omega, by rw [flat_step HXX.out, foldK_app]; exact HM8.out, fun h => (HZN.out h).2, HF8.out⟩
                        case measure => simp [intOf]; omega
                      | false =>
                        have t9 : decide (y.rev ≤ z) = false := by have := (HZN.out rfl).1; simp; omega
                        go_wp2_with (go_at_call 27; refine HFD.out.mono ?_; rintro e w8 ⟨v8, rfl, h1, h2⟩; have HM8 := Lib.hid h1; have HF8 := Lib.hid (HFy.out.trans h2 (by simp)); clear h1 h2)
                        go_roundw
                        case rel => exact ⟨q + 1, y.rev, rfl, by go_num, by omega, by rw [flat_step HXX.out, foldK_app]; exact HM8.out, fun h => (HZN.out h).2, HF8.out⟩
                        case measure => simp [intOf]; omega
                    · have t6 : decide ((q : Int) < (R.length : Int)) = false := by simp; omega
                      have hqe : q = R.length := by omega
                      subst hqe
                      rw [List.take_length] at HM
                      have HMK : Hid (LFar ([pc] ++ S2) Kv.cells 3 wr (.slice sm (foldK m9 R.flatten).length cm) K9) := Lib.hid (by have h := HM.out; rw [HFO.out] at h ⊢; exact h)
                      have HSF := Lib.hid (HSS.out.keep HFy.out (by simp))
                      have HAT : Hid (Calls Try.prog 28 #[.pointer (some ⟨p, 0, none⟩), .int .i64 (U : Int), .agg #[.string f, .string t]] wr fun e w' => ∃ s c, e = .returned (.tuple #[.slice s K9.length c, .int .i64 0]) ∧ KvIn w' (.slice s K9.length c) K9 ∧ Fr [] wr w') := Lib.hid ((hist_at (U : Int) f t HSF.out OKJ.out (by omega)).mono (by
                        have h0 : H2.atE (U : Int) = 0 := atE_zero.2 ⟨by have := HAO.out; have := HUA.out; omega, by have := HUL.out; omega⟩
                        have hl : H2.atL (U : Int) f t = K9 := by unfold HA.atL; rw [if_pos h0, HK9.out]; rfl
                        rintro e w' ⟨v, rfl, h1, _, h3⟩
                        rw [hl] at h1
                        obtain ⟨s, c, hv, _, _⟩ := h1.form
                        subst hv
                        rw [h0]
                        exact ⟨s, c, rfl, h1.lin, h3⟩))
                      go_wp2_with (go_at_call 28; refine HAT.out.mono ?_; rintro e w9 ⟨s9, c9, rfl, h1, h2⟩; refine go_stop ?_)
                      unfold Stop
                      have HKN := Lib.hid h1
                      have HF9 := Lib.hid (HFy.out.trans h2 (by simp))
                      have HMN := Lib.hid (HMK.out.keep0 h2)
                      obtain ⟨y0, y1, y2, y3, _⟩ := cells4 (HF9.out.keep HNS.out (by simp))
                      have HSE : Hid (sameB kvB K9 K9 = true) := Lib.hid ((sameB_eq kvB_eq).2 rfl)
                      have t7 : decide ((U : Int) < (A2 : Int)) = false := by have := HUA.out; simp; omega
                      have t7n : decide (U < A2) = false := by have := HUA.out; simp; omega
                      have t8n : decide (H2.rows.length < U) = false := by have := HUL.out; simp; omega
                      have t8 : decide ((H2.rows.length : Int) < (U : Int)) = false := by have := HUL.out; simp; omega
                      have HRV : Hid (∀ W, Fr [] w9 W → Calls Try.prog 21 #[.pointer (some ⟨p, 0, none⟩)] W fun e w' => e = .returned (.int .i64 H2.rows.length) ∧ Fr [] W w') := Lib.hid (fun W hW => (hist_rev (HSF.out.keep (h2.trans hW (by simp)) (by simp))).mono (by
                        rintro e w' ⟨rfl, rfl⟩
                        exact ⟨rfl, Fr.refl _ _⟩))
                      have Ay2 := fun n : After [] w9 => n.cell y2 (by simp)
                      clear h1 h2 m0 m1 m2 m3 x0 x1 x2 x3 x4 HAT HM HMK HFy
                      go_wp2_with fail
                      refine wp_region_after [] (by kernel_rfl) (by kernel_rfl) ?_
                      repeat (go_big_quiet_step (first | (go_at_call 29; exact After.quiet_bool (rkvs_any _ _ K9 K9 _ (LIn.keep0 HKN.out (After.fr _)) (LIn.keep0 HMN.out.lin (After.fr _))) HSE.out) | (go_at_call 21; exact After.quiet (HRV.out _ (After.fr _)))))
                      refine wpQuiet_nil ?_
                      rintro _ ⟨nq, rfl⟩
                      have z2 := nq.cell y2 (by simp)
                      go_wp2_with fail
                      go_roundw
                      case rel =>
                        have hfq := HF9.out.trans nq.fr (by simp)
                        exact ⟨j2 + 1, U, S2, H2, rfl, by go_num, by omega, HSS.out.keep hfq (by simp), OKJ.out.mono (by omega), HUL.out, by rw [← HK9.out]; exact HMN.out.keep0 nq.fr, HG.out, HN.out, hfq.keep HXS.out (by simp), hfq.keep HCS.out (by simp), HFS.out.trans hfq (by simp)⟩
                      case measure => simp [intOf]; omega
        · have t2 : decide ((j2 : Int) < (l1.length : Int)) = false := by simp; omega
          go_wp2_with fail
          go_ret
          exact ⟨rfl, HF.out.below (Nat.le_refl _) (by simp)⟩

set_option maxRecDepth 100000 in
theorem contract (H : Type) (enc : TypeId × Value → H) (W : World) (base : Nat) (args : Array Value) (ds gs : List (DataW H)) (before : List MemPlace)
    (hval0 : ∀ (j : Nat) t v, Try.f4.params[j]? = some t → args[j]? = some v → Value.okWide Try.prog W .any base t v)
    (hW : DataW.Whole enc Try.prog Try.f4.params.toList Rows.cursorFoldsSpec.vars false W args.toList ds gs before) :
    Calls Try.prog 4 args W fun e W' => ∃ v, e = .returned v ∧ Rows.cursorFoldsSpec.post enc Try.prog Try.f4 false true false false W args v W' := by
  have hval : ∀ (j : Nat) t v, Try.f4.params[j]? = some t → args[j]? = some v → Value.okWide Try.prog W .any base t v := hval0
  have hW' := hW
  obtain ⟨p, q, hA0, hV, rfl, hfz, hnd⟩ := hW
  have hA : DataW.TrodAll enc Try.prog W 0 (fun _ => true) true Try.f4.params.toList args.toList ds p := hA0
  rw [Try.params4] at hA hval
  obtain ⟨v0, vs0, d0, ds0, p0, q0, hargs, rfl, rfl, h0, r0⟩ := trodAll_cons hA
  obtain ⟨v1, vs1, d1, ds1, p1, q1, rfl, rfl, rfl, h1, r1⟩ := trodAll_cons r0
  obtain ⟨v2, vs2, d2, ds2, p2, q2, rfl, rfl, rfl, h2, r2⟩ := trodAll_cons r1
  obtain ⟨rfl, rfl, rfl⟩ := trodAll_nil r2
  obtain rfl : args = #[v0, v1, v2] := by cases args; simp_all
  obtain ⟨rfl, rfl⟩ := trodVars_none hV
  have k0 := h0
  have lt0 : ∀ x ∈ p0, x.block < W.heap.size := by obtain ⟨m, hm⟩ := k0; exact DataW.trod_lt m _ _ _ hm
  have k1 := h1
  have lt1 : ∀ x ∈ p1, x.block < W.heap.size := by obtain ⟨m, hm⟩ := k1; exact DataW.trod_lt m _ _ _ hm
  have k2 := h2
  have lt2 : ∀ x ∈ p2, x.block < W.heap.size := by obtain ⟨m, hm⟩ := k2; exact DataW.trod_lt m _ _ _ hm
  obtain ⟨l, hl⟩ := open_cdeeds (hval 0 48 v0 rfl rfl) h0
  obtain ⟨m, hm⟩ := open_cdeeds (hval 1 48 v1 rfl rfl) h1
  obtain ⟨c, rfl, fc, tc, nc⟩ := open_cu (hval 2 25 v2 rfl rfl) h2
  clear hA0 hval0 hval
  refine (walk v0 v1 l m c W hl hm nc).mono fun e W' ⟨he, bel⟩ => ?_
  subst he
  exact ⟨_, rfl, _, _, _, [], _, [], hW', trodAll_mk1 (shut_bool Try.underlying4 _), (trodAll_cons_mk (Below.trod laid_prog (by kernel_rfl) (of_decide_eq_true (by kernel_rfl)) k0 bel lt0) (trodAll_cons_mk (Below.trod laid_prog (by kernel_rfl) (of_decide_eq_true (by kernel_rfl)) k1 bel lt1) (trodAll_cons_mk (Below.trod laid_prog (by kernel_rfl) (of_decide_eq_true (by kernel_rfl)) k2 bel lt2) trodAll_mk0))), rfl, bel.frame _, fun h => by cases h⟩

set_option maxRecDepth 100000 in
theorem lifted (os : Os) (started : os.Started) (H : Type) (enc : TypeId × Value → H) :
    ReturnsInHanded {} Try.checked os 4 .any (Rows.cursorFoldsSpec.pre6 enc Try.prog Try.f4 Rows.cursorFoldsRow.domain false) (Rows.cursorFoldsSpec.post enc Try.prog Try.f4 false true false false) := by
  refine returnsInHanded_of_change (C := Try.checked) own_prog started (by kernel_rfl) Try.func4
    (ChangeSpec.witness6 (enc := enc) (C := Try.checked) false ⟨#[], #[.slice none 0 0, .slice none 0 0, .agg #[.string ⟨#[]⟩, .string ⟨#[]⟩, .int .i64 0, .bool false, .bool false]], []⟩ 8 (by kernel_rfl) (by kernel_rfl) (by kernel_rfl) (by kernel_rfl)) ?_
  intro W base args ds gs before hval hW _ _
  exact contract H enc W base args ds gs before hval hW

theorem proved : Rows.CursorFoldsSaid :=
  OpenClaim.holds_of_wide 4 Try.f4 rfl rfl rfl rfl rfl rfl rfl ⟨rfl, rfl, rfl, rfl, rfl⟩ rfl rfl rfl rfl rfl (by kernel_rfl) Try.func4 (by kernel_rfl)
    (of_decide_eq_true (by kernel_rfl)) (by unfold Func.isWrapper; first | (rw [if_pos (by decide +kernel)]; kernel_rfl) | (rw [if_neg (by decide +kernel)]; exact ⟨rfl, rfl⟩))
    (fun os started H enc _ => lifted os started H enc)

end Go.Proofs.Ytmbfcdoemcffpaa.lawCursorFolds
