/- Records that are not free have cells of their own, apart from each other's, and from those that there were: for every list of deeds. No condition. -/
import Derived.Test.YtkampbbginamhaaSlabApart0
namespace Go.Proofs.Ytkampbbginamhaa.lawSlabApart
open Go.ChangeShapes Go.WideShapes Go.ChangeAt Go.RowKit Go.Deep
set_option linter.unusedVariables false
set_option linter.unusedSimpArgs false

set_option maxRecDepth 100000 in
set_option maxHeartbeats 2000000 in
theorem walk (a0 : Option Addr) (len0 cap0 : Nat) (w : World) (w0 : SDeeds w a0 len0 cap0) :
    Calls Try.prog 5 #[.slice a0 len0 cap0] w fun e w' => e = .returned (.bool true) ∧ Below w.heap.size w w' := by
  have HD := Lib.hid w0
  clear w0
  go_enter Try.func5, Try.ntmps5
  go_wp2_with (first | (go_at_call 9; refine (slab_awake _).mono ?_; rintro e w1 ⟨rfl, h1⟩; have HA := Lib.hid h1; clear h1) | (go_at_call 16; refine (sran_any _ _ _ _ (HD.out.keep HA.out)).mono ?_; rintro e w2 ⟨V, FT, s, L, rfl, hb, hi, hf, hft⟩; refine go_stop ?_))
  obtain ⟨p, pm, mv, rv, mx, k, gx, tx, fx, lv, rfl, hown, hl, hlv, hlt, ⟨ma, mn, mc, rfl⟩, ⟨ga, gn, gc, rfl⟩, ⟨ta, tn, tc, rfl⟩, ⟨fa, fn, fc, rfl⟩, la, lc, rfl⟩ := hb.own
  have hO := hown.box (.cells #[.pointer (some ⟨p, 0, none⟩), .pointer (some ⟨pm, 0, none⟩), .slice ma mn mc, .int .i64 k, .int .i64 s.first, .int .i64 s.words, .slice ga gn gc, .slice ta tn tc, .slice fa fn fc, .slice la L.length lc] 34)
  have hF3 := (HA.out.trans hf (by simp)).alloc (.cells #[.pointer (some ⟨p, 0, none⟩), .pointer (some ⟨pm, 0, none⟩), .slice ma mn mc, .int .i64 k, .int .i64 s.first, .int .i64 s.words, .slice ga gn gc, .slice ta tn tc, .slice fa fn fc, .slice la L.length lc] 34)
  have hws := HA.out.size
  have HO := Lib.hid hO
  have HF3 := Lib.hid hF3
  have HX3 := Lib.hid (new_block w2 (.cells #[.pointer (some ⟨p, 0, none⟩), .pointer (some ⟨pm, 0, none⟩), .slice ma mn mc, .int .i64 k, .int .i64 s.first, .int .i64 s.words, .slice ga gn gc, .slice ta tn tc, .slice fa fn fc, .slice la L.length lc] 34))
  have HXF := Lib.hid (fun h => by have := hlt _ h; omega : w2.heap.size ∉ FT)
  have HFT := Lib.hid (fun k hk => by have := hft k hk; omega : ∀ k ∈ FT, w.heap.size ≤ k)
  have HI := Lib.hid hi
  have HL := Lib.hid (hl.alloc (.cells #[.pointer (some ⟨p, 0, none⟩), .pointer (some ⟨pm, 0, none⟩), .slice ma mn mc, .int .i64 k, .int .i64 s.first, .int .i64 s.words, .slice ga gn gc, .slice ta tn tc, .slice fa fn fc, .slice la L.length lc] 34))
  obtain ⟨X, hXe⟩ : ∃ X, X = w2.heap.size := ⟨_, rfl⟩
  obtain ⟨W3, hW3⟩ : ∃ W3, W3 = w2.alloc (.cells #[.pointer (some ⟨p, 0, none⟩), .pointer (some ⟨pm, 0, none⟩), .slice ma mn mc, .int .i64 k, .int .i64 s.first, .int .i64 s.words, .slice ga gn gc, .slice ta tn tc, .slice fa fn fc, .slice la L.length lc] 34) := ⟨_, rfl⟩
  have hs3 : W3.heap.size = X + 1 := by rw [hW3, hXe]; simp
  have hln : L.length ≤ 60 := hi.inv.len
  have hX3 : W3.heap[X]? = some (.cells #[.pointer (some ⟨p, 0, none⟩), .pointer (some ⟨pm, 0, none⟩), .slice ma mn mc, .int .i64 k, .int .i64 s.first, .int .i64 s.words, .slice ga gn gc, .slice ta tn tc, .slice fa fn fc, .slice la L.length lc] 34 (0, 0)) := by rw [hW3, hXe]; exact new_block w2 (.cells #[.pointer (some ⟨p, 0, none⟩), .pointer (some ⟨pm, 0, none⟩), .slice ma mn mc, .int .i64 k, .int .i64 s.first, .int .i64 s.words, .slice ga gn gc, .slice ta tn tc, .slice fa fn fc, .slice la L.length lc] 34)
  have hL3 := hl.alloc (.cells #[.pointer (some ⟨p, 0, none⟩), .pointer (some ⟨pm, 0, none⟩), .slice ma mn mc, .int .i64 k, .int .i64 s.first, .int .i64 s.words, .slice ga gn gc, .slice ta tn tc, .slice fa fn fc, .slice la L.length lc] 34)
  have hLX : ∀ b, (Value.slice la L.length lc).ownBlock = some b → b < X := fun b hb => by rw [hXe]; exact hl.lt b hb
  rw [← hW3] at hF3 hL3
  have hO3 := hO
  rw [← hW3] at hO3
  have HO3 := Lib.hid hO3
  clear hO3
  have HL3 := Lib.hid hL3
  have HLX := Lib.hid hLX
  have HF := Lib.hid hF3
  have HXX := Lib.hid hX3
  have hwX : w.heap.size ≤ X := by have := hf.size; omega
  clear hown hl hlv hlt hb hf hft hO hF3 HL HFT HXF HX3 HF3 HO hX3 hL3 hLX
  unfold Stop
  go_wp2_with fail
  rw [← hW3, ← hXe]
  clear hW3 hXe
  have hs4 : X + 1 < (W3.alloc (.cells (boolArr (seenF s L 0)) 52)).heap.size := by simp [hs3]
  go_loopw [6, 7] (fun v i wr => ∃ (j : Nat), v = .int .i64 (alive s L j) ∧ i = .int .i64 j ∧ j ≤ L.length ∧ alive s L j ≤ j ∧ wr.heap[X + 1]? = some (.cells (boolArr (seenF s L j)) 52 (0, 0)) ∧ Fr [] W3 wr) (fun _ i _ => L.length - (intOf i).toNat)
  case atStart => exact ⟨0, rfl, rfl, Nat.zero_le _, Nat.le_refl _, by rw [← hs3, boolArr_none]; exact new_block W3 _, (Fr.refl _ _).alloc _⟩
  case round =>
    obtain ⟨j, rfl, rfl, hj, hal, hB, hf⟩ := hrel
    have hX := hf.keep HXX.out (by simp)
    obtain ⟨x0, x1, x2, x3, x4, x5, x6, x7, x8, x9, fx⟩ := cells10 hX
    have HB := Lib.hid hB
    have HFR := Lib.hid hf
    have hOw := HO3.out.keep hf (by simp)
    by_cases hlt : j < L.length
    · have ht : decide ((j : Int) < L.length) = true := by simpa using hlt
      obtain ⟨x, hx⟩ : ∃ x, L[j]? = some x := ⟨_, List.getElem?_eq_getElem hlt⟩
      obtain ⟨b, o, c, hv, hb, hc, hat⟩ := (HL3.out.keep hf (by simp)).here (by omega)
      cases hv
      have hbX := HLX.out b rfl
      have hcell : wr.cell? ⟨b, o + j, none⟩ = some (.int .u64 x) := by rw [(hat j (by omega)).1, List.getElem?_map, hx]; rfl
      have hcf := (hat j (by omega)).2
      have hm : x ∈ L := List.mem_of_getElem? hx
      have hxw := HI.out.inv.word x hm
      have hpl := HI.out.hist.pl x hm
      have hnr := HI.out.inv.nrec
      have hcl := own_cell hOw x 0 hxw HI.out.inv.ok
      have HXW := Lib.hid hxw
      by_cases hh : s.has x = true
      · obtain ⟨q, hq⟩ := Int.eq_ofNat_of_zero_le hpl.1
        have hq4 : q < 4 := by omega
        obtain ⟨F, hF⟩ : ∃ F, F = 3 + 3 * q := ⟨_, rfl⟩
        have hce := fun (kk : Nat) (hk : kk < 3) => SS.has_cell hh hq HI.out.words HI.out.first kk hk
        have hun := fun (kk : Nat) (hk : kk < 3) => HI.out.hist.unseen (by omega) hx hh hq kk hk
        have hsn := seenF_yes hx hh hq
        have han := alive_next (s := s) hx
        rw [if_pos hh] at han
        rw [← hF] at hce hun hsn
        have hc0 := hce 0 (by omega)
        rw [show ((0 : Nat) : Int) = 0 from rfl] at hc0
        rw [hc0.1, hc0.2, Nat.add_zero] at hcl
        have hwl : IntKind.i64.wrap ((alive s L j : Int) + 1) = (alive s L (j + 1) : Int) := by rw [han]; rw [show (((alive s L j + 1 : Nat)) : Int) = (alive s L j : Int) + 1 by omega]; exact IntWalk.i64_in _ ⟨by omega, by omega⟩
        have HCL := Lib.hid hcl
        have HCE := Lib.hid hce
        have HUN := Lib.hid hun
        have HSN := Lib.hid hsn
        have HAN := Lib.hid han
        have HOW := Lib.hid hOw
        have hF15 : F + 3 ≤ 15 := by omega
        have hF3 : 3 ≤ F := by omega
        clear hX hB hf hat hm hpl hx hb hcl hce hun hsn han hOw hc0 hF hq4 hq hh hnr hxw
        go_wp2_with (go_at_call 19; refine HCL.out.mono ?_; rintro e w5 ⟨rfl, k5, rfl⟩)
        clear x0 x1 x2 x3 x4 x5 x6 x7 x8 x9 fx hcell hcf hwl
        have hE5 : Fr [] W3 (wr.drewN k5) := HFR.out.drewN _
        have HE5 := Lib.hid hE5
        clear hE5
        go_loopw [11] (fun i wr => ∃ (kk : Nat), i = .int .i64 kk ∧ kk ≤ 3 ∧ wr.heap[X + 1]? = some (.cells (boolArr (seenK s L j F kk)) 52 (0, 0)) ∧ Fr [] W3 wr) (fun i _ => 3 - (intOf i).toNat)
        case atStart => exact ⟨0, rfl, by omega, by rw [seenK_zero]; exact HB.out, HE5.out⟩
        case round =>
          obtain ⟨kk, rfl, hk, hB, hf⟩ := hrel
          have hX := hf.keep HXX.out (by simp)
          obtain ⟨x0, x1, x2, x3, x4, x5, x6, x7, x8, x9, fx⟩ := cells10 hX
          have HB2 := Lib.hid hB
          have HF2 := Lib.hid hf
          have hOw := HO3.out.keep hf (by simp)
          by_cases hlt2 : kk < 3
          · have ht2 : decide ((kk : Int) < 3) = true := by simp; omega
            have hcl := own_cell hOw x kk HXW.out HI.out.inv.ok
            rw [(HCE.out kk hlt2).1, (HCE.out kk hlt2).2] at hcl
            have hu := HUN.out kk hlt2
            obtain ⟨m, hm⟩ : ∃ m, m = F + kk := ⟨_, rfl⟩
            rw [← hm] at hcl hu
            have hm15 : m < 15 := by omega
            have hw1 : IntKind.i64.wrap ((F : Int) + kk) = (m : Int) := by rw [show (F : Int) + kk = m by omega]; exact IntWalk.i64_in _ ⟨by omega, by omega⟩
            have hz1 : ((m : Int) == (m : Int)) = true := by simp
            have hz2 : decide ((m : Int) < 3) = false := by simp; omega
            have hz3 : decide ((15 : Int) ≤ (m : Int)) = false := by simp; omega
            have hz4 : decide ((m : Int) ≥ 15) = false := by simp; omega
            have hcm : wr.cell? ⟨X + 1, m, none⟩ = some (.bool false) := by rw [cell_block hB, boolArr_at _ _ hm15, hu]
            have hfm : wr.frozen? ⟨X + 1, m, none⟩ = false := free_block hB m
            have HCL2 := Lib.hid hcl
            have HM := Lib.hid hm
            clear hcl hu hOw hX hB hf hm
            go_wp2_with (go_at_call 19; refine HCL2.out.mono ?_; rintro e w6 ⟨rfl, k6, rfl⟩)
            go_roundw
            case rel =>
              refine ⟨kk + 1, by go_num, by omega, ?_, ?_⟩
              · rw [seenK_next, ← HM.out, ← boolArr_set]
                exact set_block (show (wr.drewN k6).heap[X + 1]? = _ from HB2.out) m (.bool true)
              · with_reducible exact (HF2.out.drewN _).setNew (by omega) _
            case measure => simp [intOf]; omega
          · have ht2 : decide ((kk : Int) < 3) = false := by simp; omega
            have hk3 : kk = 3 := by omega
            clear hOw hX hB hf
            go_wp2_with fail
            go_roundw
            case rel => exact ⟨j + 1, rfl, by go_num, by omega, by have := HAN.out; omega, by rw [HSN.out, ← hk3]; exact HB2.out, HF2.out⟩
            case measure => simp [intOf]; omega
      · have hh' : s.has x = false := by simpa using hh
        have han := alive_next (s := s) hx
        rw [if_neg hh] at han
        have hsn := seenF_no hx hh'
        rw [(SS.cellE_no hh' 0).1] at hcl
        have HCL := Lib.hid hcl
        have HAN := Lib.hid han
        have HSN := Lib.hid hsn
        clear hX hB hf hat hm hpl hx hb hcl hOw hsn han hh hh' hnr hxw
        go_wp2_with (go_at_call 19; refine HCL.out.mono ?_; rintro e w5 ⟨rfl, k5, rfl⟩)
        go_roundw
        case rel => exact ⟨j + 1, by rw [HAN.out], by go_num, by omega, by have := HAN.out; omega, by rw [HSN.out]; exact HB.out, HFR.out.drewN _⟩
        case measure => simp [intOf]; omega
    · have ht : decide ((j : Int) < L.length) = false := by simpa using hlt
      have hjl : j = L.length := by omega
      have hnr := HI.out.inv.nrec
      have ha := HI.out.hist.alive hnr HI.out.inv.ok.row
      obtain ⟨A, hA⟩ : ∃ A : Nat, A = alive s L j := ⟨_, rfl⟩
      rw [← hjl, ← hA] at ha
      rw [← hA]
      have hlv := own_live hOw (by omega) (by omega)
      rw [hnr, show (((4 : Nat) : Int) - s.row.length) = (A : Int) by omega] at hlv
      have HLV := Lib.hid hlv
      have hz1 : ((A : Int) == (A : Int)) = true := by simp
      clear hX hB hf hOw hlv ha hA hnr hjl hal
      go_wp2_with (go_at_call 12; refine HLV.out.mono ?_; rintro e w5 ⟨rfl, k5, rfl⟩)
      go_ret
      exact ⟨rfl, ((HF.out.trans HFR.out (by simp)).drewN _).below (Nat.le_refl _) (by simp)⟩

set_option maxRecDepth 100000 in
theorem contract (H : Type) (enc : TypeId × Value → H) (W : World) (base : Nat) (args : Array Value) (ds gs : List (DataW H)) (before : List MemPlace)
    (hval0 : ∀ (j : Nat) t v, Try.f5.params[j]? = some t → args[j]? = some v → Value.okWide Try.prog W .any base t v)
    (hW : DataW.Whole enc Try.prog Try.f5.params.toList Rows.slabApartSpec.vars false W args.toList ds gs before) :
    Calls Try.prog 5 args W fun e W' => ∃ v, e = .returned v ∧ Rows.slabApartSpec.post enc Try.prog Try.f5 false true false false W args v W' := by
  have hval : ∀ (j : Nat) t v, Try.f5.params[j]? = some t → args[j]? = some v → Value.okWide Try.prog W .any base t v := hval0
  have hW' := hW
  obtain ⟨p, q, hA0, hV, rfl, hfz, hnd⟩ := hW
  have hA : DataW.TrodAll enc Try.prog W 0 (fun _ => true) true Try.f5.params.toList args.toList ds p := hA0
  rw [Try.params5] at hA hval
  obtain ⟨v0, vs0, d0, ds0, p0, q0, hargs, rfl, rfl, h0, r0⟩ := trodAll_cons hA
  obtain ⟨rfl, rfl, rfl⟩ := trodAll_nil r0
  obtain rfl : args = #[v0] := by cases args; simp_all
  obtain ⟨rfl, rfl⟩ := trodVars_none hV
  have k0 := h0
  have lt0 : ∀ x ∈ p0, x.block < W.heap.size := by obtain ⟨m, hm⟩ := k0; exact DataW.trod_lt m _ _ _ hm
  obtain ⟨a0, len0, cap0, rfl, w0⟩ := open_sdeeds (hval 0 22 v0 rfl rfl) h0
  clear hA0 hval0 hval
  refine (walk a0 len0 cap0 W w0).mono fun e W' ⟨he, bel⟩ => ?_
  subst he
  exact ⟨_, rfl, _, _, _, [], _, [], hW', trodAll_mk1 (shut_bool Try.underlying4 _), (trodAll_cons_mk (Below.trod laid_prog (by kernel_rfl) (of_decide_eq_true (by kernel_rfl)) k0 bel lt0) trodAll_mk0), rfl, bel.frame _, fun h => by cases h⟩

set_option maxRecDepth 100000 in
theorem lifted (os : Os) (started : os.Started) (H : Type) (enc : TypeId × Value → H) :
    ReturnsInHanded {} Try.checked os 5 .any (Rows.slabApartSpec.pre6 enc Try.prog Try.f5 Rows.slabApartRow.domain false) (Rows.slabApartSpec.post enc Try.prog Try.f5 false true false false) := by
  refine returnsInHanded_of_change (C := Try.checked) own_prog started (by kernel_rfl) Try.func5
    (ChangeSpec.witness6 (enc := enc) (C := Try.checked) false ⟨#[], #[.slice none 0 0], []⟩ 8 (by kernel_rfl) (by kernel_rfl) (by kernel_rfl) (by kernel_rfl)) ?_
  intro W base args ds gs before hval hW _ _
  exact contract H enc W base args ds gs before hval hW

theorem proved : Rows.SlabApartSaid :=
  OpenClaim.holds_of_wide 5 Try.f5 rfl rfl rfl rfl rfl rfl rfl ⟨rfl, rfl, rfl, rfl, rfl⟩ rfl rfl rfl rfl rfl (by kernel_rfl) Try.func5 (by kernel_rfl)
    (of_decide_eq_true (by kernel_rfl)) (by unfold Func.isWrapper; first | (rw [if_pos (by decide +kernel)]; kernel_rfl) | (rw [if_neg (by decide +kernel)]; exact ⟨rfl, rfl⟩))
    (fun os started H enc _ => lifted os started H enc)

end Go.Proofs.Ytkampbbginamhaa.lawSlabApart
