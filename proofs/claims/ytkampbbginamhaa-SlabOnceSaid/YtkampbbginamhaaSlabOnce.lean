/- No ref is told twice: each has a place, and a generation above all that its place had: for every list of deeds. No condition. -/
import Derived.Test.YtkampbbginamhaaSlabOnce0
namespace Go.Proofs.Ytkampbbginamhaa.lawSlabOnce
open Go.ChangeShapes Go.WideShapes Go.ChangeAt Go.RowKit Go.Deep
set_option linter.unusedVariables false
set_option linter.unusedSimpArgs false

set_option maxRecDepth 100000 in
set_option maxHeartbeats 2000000 in
theorem walk (a0 : Option Addr) (len0 cap0 : Nat) (w : World) (w0 : SDeeds w a0 len0 cap0) :
    Calls Try.prog 4 #[.slice a0 len0 cap0] w fun e w' => e = .returned (.bool true) ∧ Below w.heap.size w w' := by
  have HD := Lib.hid w0
  clear w0
  go_enter Try.func4, Try.ntmps4
  go_wp2_with (first | (go_at_call 9; refine (slab_awake _).mono ?_; rintro e w1 ⟨rfl, h1⟩; have HA := Lib.hid h1; clear h1) | (go_at_call 16; refine (sran_any _ _ _ _ (HD.out.keep HA.out)).mono ?_; rintro e w2 ⟨V, FT, s, L, rfl, hb, hi, hf, hft⟩; refine go_stop ?_))
  obtain ⟨p, pm, mv, rv, mx, k, gx, tx, fx, lv, rfl, hown, hl, hlv, hlt, ⟨ma, mn, mc, rfl⟩, ⟨ga, gn, gc, rfl⟩, ⟨ta, tn, tc, rfl⟩, ⟨fa, fn, fc, rfl⟩, la, lc, rfl⟩ := hb.own
  have hO := hown.box (.cells #[.pointer (some ⟨p, 0, none⟩), .pointer (some ⟨pm, 0, none⟩), .slice ma mn mc, .int .i64 k, .int .i64 s.first, .int .i64 s.words, .slice ga gn gc, .slice ta tn tc, .slice fa fn fc, .slice la L.length lc] 34)
  have hF3 := (HA.out.trans hf (by simp)).alloc (.cells #[.pointer (some ⟨p, 0, none⟩), .pointer (some ⟨pm, 0, none⟩), .slice ma mn mc, .int .i64 k, .int .i64 s.first, .int .i64 s.words, .slice ga gn gc, .slice ta tn tc, .slice fa fn fc, .slice la L.length lc] 34)
  have hws := HA.out.size
  have HO := Lib.hid hO
  have HF3 := Lib.hid hF3
  have HX3 := Lib.hid (new_block w2 (.cells #[.pointer (some ⟨p, 0, none⟩), .pointer (some ⟨pm, 0, none⟩), .slice ma mn mc, .int .i64 k, .int .i64 s.first, .int .i64 s.words, .slice ga gn gc, .slice ta tn tc, .slice fa fn fc, .slice la L.length lc] 34))
  have HXF := Lib.hid (fun h => by have := hlt _ h; omega : w2.heap.size ∉ FT)
  have HFT := Lib.hid (fun k hk => by have := hft k hk; omega : ∀ k ∈ FT, w.heap.size ≤ k)
  have HI := Lib.hid hi
  have HL := Lib.hid (hl.alloc (.cells #[.pointer (some ⟨p, 0, none⟩), .pointer (some ⟨pm, 0, none⟩), .slice ma mn mc, .int .i64 k, .int .i64 s.first, .int .i64 s.words, .slice ga gn gc, .slice ta tn tc, .slice fa fn fc, .slice la L.length lc] 34))
  obtain ⟨X, hXe⟩ : ∃ X, X = w2.heap.size := ⟨_, rfl⟩
  obtain ⟨W3, hW3⟩ : ∃ W3, W3 = w2.alloc (.cells #[.pointer (some ⟨p, 0, none⟩), .pointer (some ⟨pm, 0, none⟩), .slice ma mn mc, .int .i64 k, .int .i64 s.first, .int .i64 s.words, .slice ga gn gc, .slice ta tn tc, .slice fa fn fc, .slice la L.length lc] 34) := ⟨_, rfl⟩
  have hs3 : W3.heap.size = X + 1 := by rw [hW3, hXe]; simp
  have hln : L.length ≤ 60 := hi.inv.len
  have hX3 : W3.heap[X]? = some (.cells #[.pointer (some ⟨p, 0, none⟩), .pointer (some ⟨pm, 0, none⟩), .slice ma mn mc, .int .i64 k, .int .i64 s.first, .int .i64 s.words, .slice ga gn gc, .slice ta tn tc, .slice fa fn fc, .slice la L.length lc] 34 (0, 0)) := by rw [hW3, hXe]; exact new_block w2 (.cells #[.pointer (some ⟨p, 0, none⟩), .pointer (some ⟨pm, 0, none⟩), .slice ma mn mc, .int .i64 k, .int .i64 s.first, .int .i64 s.words, .slice ga gn gc, .slice ta tn tc, .slice fa fn fc, .slice la L.length lc] 34)
  have hL3 := hl.alloc (.cells #[.pointer (some ⟨p, 0, none⟩), .pointer (some ⟨pm, 0, none⟩), .slice ma mn mc, .int .i64 k, .int .i64 s.first, .int .i64 s.words, .slice ga gn gc, .slice ta tn tc, .slice fa fn fc, .slice la L.length lc] 34)
  have hLX : ∀ b, (Value.slice la L.length lc).ownBlock = some b → b < X := fun b hb => by rw [hXe]; exact hl.lt b hb
  rw [← hW3] at hF3 hL3
  have HL3 := Lib.hid hL3
  have HLX := Lib.hid hLX
  have HF := Lib.hid hF3
  have HXX := Lib.hid hX3
  have hwX : w.heap.size ≤ X := by have := hf.size; omega
  clear hown hl hlv hlt hb hf hft hO hF3 HL HFT HXF HX3 HF3 HO hX3 hL3 hLX
  unfold Stop
  go_wp2_with fail
  rw [← hW3, ← hXe]
  clear hW3 hXe
  have hs4 : X + 1 < (W3.alloc (.cells #[.int .i64 0, .int .i64 0, .int .i64 0, .int .i64 0] 48)).heap.size := by simp [hs3]
  go_loopw [6] (fun i wr => ∃ (j : Nat), i = .int .i64 j ∧ j ≤ L.length ∧ wr.heap[X + 1]? = some (.cells #[.int .i64 (cnt L j 0), .int .i64 (cnt L j 1), .int .i64 (cnt L j 2), .int .i64 (cnt L j 3)] 48 (0, 0)) ∧ Fr [] W3 wr) (fun i _ => L.length - (intOf i).toNat)
  case atStart => exact ⟨0, rfl, Nat.zero_le _, by rw [← hs3]; exact new_block W3 _, (Fr.refl _ _).alloc _⟩
  case round =>
    obtain ⟨j, rfl, hj, hB, hf⟩ := hrel
    have hX := hf.keep HXX.out (by simp)
    obtain ⟨x0, x1, x2, x3, x4, x5, x6, x7, x8, x9, fx⟩ := cells10 hX
    obtain ⟨c0, c1, c2, c3, fc⟩ := cells4 hB
    have HB := Lib.hid hB
    have HFR := Lib.hid hf
    by_cases hlt : j < L.length
    · have ht : decide ((j : Int) < L.length) = true := by simpa using hlt
      obtain ⟨x, hx⟩ : ∃ x, L[j]? = some x := ⟨_, List.getElem?_eq_getElem hlt⟩
      obtain ⟨b, o, c, hv, hb, hc, hat⟩ := (HL3.out.keep hf (by simp)).here (by omega)
      cases hv
      have hbX := HLX.out b rfl
      have hcell : wr.cell? ⟨b, o + j, none⟩ = some (.int .u64 x) := by rw [(hat j (by omega)).1, List.getElem?_map, hx]; rfl
      have hcf := (hat j (by omega)).2
      have hm : x ∈ L := List.mem_of_getElem? hx
      have HXW := Lib.hid (HI.out.inv.word x hm)
      have hpl := HI.out.hist.pl x hm
      have HON := Lib.hid (fun (p : Nat) (h : plc x = p) => (HI.out.hist.once (by have := HI.out.inv.nrec; omega) hx h).2.1)
      have hp4 : plc x = 0 ∨ plc x = 1 ∨ plc x = 2 ∨ plc x = 3 := by have := HI.out.inv.nrec; omega
      have HXE := Lib.hid hx
      clear hX hB hf hat hm hpl hx hb
      rcases hp4 with hp | hp | hp | hp
      · have e1 := HON.out 0 hp
        obtain ⟨y, hy⟩ : ∃ y : Int, y = (cnt L j 0 : Int) + 1 := ⟨_, rfl⟩
        have t3 : decide (y ≤ (cnt L j 0 : Int)) = false := by simp; omega
        have hgn : gnr x = y := e1.trans hy.symm
        have HPL := Lib.hid (fun W => slab_place x W HXW.out)
        have HGE := Lib.hid (fun W => slab_gen x W HXW.out)
        rw [hp] at HPL
        rw [hgn] at HGE
        have HY := Lib.hid hy
        clear hy hgn e1
        go_wp2_with (first | (go_at_call 17; refine (HPL.out _).mono ?_; rintro e w5 ⟨rfl, rfl⟩) | (go_at_call 18; refine (HGE.out _).mono ?_; rintro e w5 ⟨rfl, rfl⟩))
        go_roundw
        case rel =>
          refine ⟨j + 1, by go_num, by omega, ?_, ?_⟩
          · have n0 := cnt_next HXE.out 0
            have n1 := cnt_next HXE.out 1
            have n2 := cnt_next HXE.out 2
            have n3 := cnt_next HXE.out 3
            rw [hp] at n0 n1 n2 n3
            simp at n0 n1 n2 n3
            have hyy := HY.out
            rw [n0, n1, n2, n3]
            simpa [hyy] using set_block HB.out 0 (.int .i64 y)
          · with_reducible exact HFR.out.setNew (by omega) _
        case measure => simp [intOf]; omega
      · have e1 := HON.out 1 hp
        obtain ⟨y, hy⟩ : ∃ y : Int, y = (cnt L j 1 : Int) + 1 := ⟨_, rfl⟩
        have t3 : decide (y ≤ (cnt L j 1 : Int)) = false := by simp; omega
        have hgn : gnr x = y := e1.trans hy.symm
        have HPL := Lib.hid (fun W => slab_place x W HXW.out)
        have HGE := Lib.hid (fun W => slab_gen x W HXW.out)
        rw [hp] at HPL
        rw [hgn] at HGE
        have HY := Lib.hid hy
        clear hy hgn e1
        go_wp2_with (first | (go_at_call 17; refine (HPL.out _).mono ?_; rintro e w5 ⟨rfl, rfl⟩) | (go_at_call 18; refine (HGE.out _).mono ?_; rintro e w5 ⟨rfl, rfl⟩))
        go_roundw
        case rel =>
          refine ⟨j + 1, by go_num, by omega, ?_, ?_⟩
          · have n0 := cnt_next HXE.out 0
            have n1 := cnt_next HXE.out 1
            have n2 := cnt_next HXE.out 2
            have n3 := cnt_next HXE.out 3
            rw [hp] at n0 n1 n2 n3
            simp at n0 n1 n2 n3
            have hyy := HY.out
            rw [n0, n1, n2, n3]
            simpa [hyy] using set_block HB.out 1 (.int .i64 y)
          · with_reducible exact HFR.out.setNew (by omega) _
        case measure => simp [intOf]; omega
      · have e1 := HON.out 2 hp
        obtain ⟨y, hy⟩ : ∃ y : Int, y = (cnt L j 2 : Int) + 1 := ⟨_, rfl⟩
        have t3 : decide (y ≤ (cnt L j 2 : Int)) = false := by simp; omega
        have hgn : gnr x = y := e1.trans hy.symm
        have HPL := Lib.hid (fun W => slab_place x W HXW.out)
        have HGE := Lib.hid (fun W => slab_gen x W HXW.out)
        rw [hp] at HPL
        rw [hgn] at HGE
        have HY := Lib.hid hy
        clear hy hgn e1
        go_wp2_with (first | (go_at_call 17; refine (HPL.out _).mono ?_; rintro e w5 ⟨rfl, rfl⟩) | (go_at_call 18; refine (HGE.out _).mono ?_; rintro e w5 ⟨rfl, rfl⟩))
        go_roundw
        case rel =>
          refine ⟨j + 1, by go_num, by omega, ?_, ?_⟩
          · have n0 := cnt_next HXE.out 0
            have n1 := cnt_next HXE.out 1
            have n2 := cnt_next HXE.out 2
            have n3 := cnt_next HXE.out 3
            rw [hp] at n0 n1 n2 n3
            simp at n0 n1 n2 n3
            have hyy := HY.out
            rw [n0, n1, n2, n3]
            simpa [hyy] using set_block HB.out 2 (.int .i64 y)
          · with_reducible exact HFR.out.setNew (by omega) _
        case measure => simp [intOf]; omega
      · have e1 := HON.out 3 hp
        obtain ⟨y, hy⟩ : ∃ y : Int, y = (cnt L j 3 : Int) + 1 := ⟨_, rfl⟩
        have t3 : decide (y ≤ (cnt L j 3 : Int)) = false := by simp; omega
        have hgn : gnr x = y := e1.trans hy.symm
        have HPL := Lib.hid (fun W => slab_place x W HXW.out)
        have HGE := Lib.hid (fun W => slab_gen x W HXW.out)
        rw [hp] at HPL
        rw [hgn] at HGE
        have HY := Lib.hid hy
        clear hy hgn e1
        go_wp2_with (first | (go_at_call 17; refine (HPL.out _).mono ?_; rintro e w5 ⟨rfl, rfl⟩) | (go_at_call 18; refine (HGE.out _).mono ?_; rintro e w5 ⟨rfl, rfl⟩))
        go_roundw
        case rel =>
          refine ⟨j + 1, by go_num, by omega, ?_, ?_⟩
          · have n0 := cnt_next HXE.out 0
            have n1 := cnt_next HXE.out 1
            have n2 := cnt_next HXE.out 2
            have n3 := cnt_next HXE.out 3
            rw [hp] at n0 n1 n2 n3
            simp at n0 n1 n2 n3
            have hyy := HY.out
            rw [n0, n1, n2, n3]
            simpa [hyy] using set_block HB.out 3 (.int .i64 y)
          · with_reducible exact HFR.out.setNew (by omega) _
        case measure => simp [intOf]; omega
    · have ht : decide ((j : Int) < L.length) = false := by simpa using hlt
      clear hX hB hf
      go_wp2
      go_ret
      exact ⟨rfl, (HF.out.trans HFR.out (by simp)).below (Nat.le_refl _) (by simp)⟩

set_option maxRecDepth 100000 in
theorem contract (H : Type) (enc : TypeId × Value → H) (W : World) (base : Nat) (args : Array Value) (ds gs : List (DataW H)) (before : List MemPlace)
    (hval0 : ∀ (j : Nat) t v, Try.f4.params[j]? = some t → args[j]? = some v → Value.okWide Try.prog W .any base t v)
    (hW : DataW.Whole enc Try.prog Try.f4.params.toList Rows.slabOnceSpec.vars false W args.toList ds gs before) :
    Calls Try.prog 4 args W fun e W' => ∃ v, e = .returned v ∧ Rows.slabOnceSpec.post enc Try.prog Try.f4 false true false false W args v W' := by
  have hval : ∀ (j : Nat) t v, Try.f4.params[j]? = some t → args[j]? = some v → Value.okWide Try.prog W .any base t v := hval0
  have hW' := hW
  obtain ⟨p, q, hA0, hV, rfl, hfz, hnd⟩ := hW
  have hA : DataW.TrodAll enc Try.prog W 0 (fun _ => true) true Try.f4.params.toList args.toList ds p := hA0
  rw [Try.params4] at hA hval
  obtain ⟨v0, vs0, d0, ds0, p0, q0, hargs, rfl, rfl, h0, r0⟩ := trodAll_cons hA
  obtain ⟨rfl, rfl, rfl⟩ := trodAll_nil r0
  obtain rfl : args = #[v0] := by cases args; simp_all
  obtain ⟨rfl, rfl⟩ := trodVars_none hV
  have k0 := h0
  have lt0 : ∀ x ∈ p0, x.block < W.heap.size := by obtain ⟨m, hm⟩ := k0; exact DataW.trod_lt m _ _ _ hm
  obtain ⟨a0, len0, cap0, rfl, w0⟩ := open_sdeeds (hval 0 22 v0 rfl rfl) h0
  clear hA0 hval0 hval
  refine (walk a0 len0 cap0 W w0).mono fun e W' ⟨he, bel⟩ => ?_
  subst he
  exact ⟨_, rfl, _, _, _, [], _, [], hW', trodAll_mk1 (shut_bool Try.underlying4 _), (trodAll_cons_mk (Below.trod laid_prog (by kernel_rfl) (of_decide_eq_true (by kernel_rfl)) k0 bel lt0) trodAll_mk0), rfl, bel.frame _, fun h => by cases h⟩

set_option maxRecDepth 100000 in
theorem lifted (os : Os) (started : os.Started) (H : Type) (enc : TypeId × Value → H) :
    ReturnsInHanded {} Try.checked os 4 .any (Rows.slabOnceSpec.pre6 enc Try.prog Try.f4 Rows.slabOnceRow.domain false) (Rows.slabOnceSpec.post enc Try.prog Try.f4 false true false false) := by
  refine returnsInHanded_of_change (C := Try.checked) own_prog started (by kernel_rfl) Try.func4
    (ChangeSpec.witness6 (enc := enc) (C := Try.checked) false ⟨#[], #[.slice none 0 0], []⟩ 8 (by kernel_rfl) (by kernel_rfl) (by kernel_rfl) (by kernel_rfl)) ?_
  intro W base args ds gs before hval hW _ _
  exact contract H enc W base args ds gs before hval hW

theorem proved : Rows.SlabOnceSaid :=
  OpenClaim.holds_of_wide 4 Try.f4 rfl rfl rfl rfl rfl rfl rfl ⟨rfl, rfl, rfl, rfl, rfl⟩ rfl rfl rfl rfl rfl (by kernel_rfl) Try.func4 (by kernel_rfl)
    (of_decide_eq_true (by kernel_rfl)) (by unfold Func.isWrapper; first | (rw [if_pos (by decide +kernel)]; kernel_rfl) | (rw [if_neg (by decide +kernel)]; exact ⟨rfl, rfl⟩))
    (fun os started H enc _ => lifted os started H enc)

end Go.Proofs.Ytkampbbginamhaa.lawSlabOnce
