/- With a call more that wasn't answered, and with one that isn't answered any more, calls that fit fit still: for every set of 20 keys at most, every list of 2 to 12 calls, and every number. No condition. -/
import Derived.Test.YtbbhekmhffhpfaaOrAw
import Derived.Test.YtbbhekmhffhpfaaOrRun
import Derived.Test.YtbbhekmhffhpfaaOrLaw
namespace Go.Proofs.Ytbbhekmhffhpfaa.lawOrderMore
open Go.ChangeShapes Go.WideShapes Go.ChangeAt Go.RowKit Go.Deep Go.ChangeMaps
set_option linter.unusedVariables false
set_option linter.unusedSimpArgs false

theorem cr_slice : Try.prog.underlying 23 = some (.slice 31) := Try.underlying23
theorem cr_info : (Try.prog.info? 31).map (fun i => (i.zero, i.size, i.bytes)) = some (some (.agg #[.int .i64 0, .string ⟨#[]⟩, .bool false, .int .i64 0, .int .i64 0]), 5, 48) := by kernel_rfl
theorem ca_drop {w : World} {g off off' c n k m : Nat} {l : List Ca} (h : CaIn w (.slice (some ⟨g, off, none⟩) n c) l) (hm : l.length = m + k) (ho : CutAt off k 5 c off') (hg : g < w.heap.size) : CaIn w (.slice (some ⟨g, off', none⟩) m (c - k)) (l.drop k) := by
  obtain ⟨a, c', h1, h2, h3, h4⟩ := h
  cases h1
  have hlen : (l.drop k).length = m := by rw [List.length_drop]; omega
  refine ⟨_, c - k, by rw [hlen], by omega, by omega, fun hl => ⟨g, off', rfl, hg, fun i x hx j hj => ?_⟩⟩
  obtain ⟨g', off2, h5, h6, h7⟩ := h4 (by omega)
  cases h5
  rcases ho with rfl | ⟨rfl, rfl⟩
  · have := h7 (k + i) x (by rw [List.getElem?_drop] at hx; exact hx) j hj
    rw [← this]
    congr 2
    rw [Nat.add_mul]; omega
  · omega
theorem out_empty (w1 W : World) (h : w1.heap.size ≤ W.heap.size) : CaOut w1 (W.alloc (.cells #[] 29)) (.slice (some ⟨W.heap.size, 0, none⟩) 0 0) [] :=
  ⟨⟨rfl, Or.inr ⟨W.heap.size, 0, 0, #[], rfl, new_block W _, Nat.le_refl _, by unfold maxLen; omega, by simp, fun j hj => absurd hj (by simp)⟩⟩, fun k hk => by simp [Value.ownBlock] at hk; omega⟩
set_option maxRecDepth 100000 in
set_option maxHeartbeats 4000000 in
theorem walk (fv lv : Value) (first : List ByteArray) (al : List Ca) (n : Int) (w : World) (hf : SsIn w fv first) (hl : CaIn w lv al) (hn : (Lit.int .u8 n).wf = true) :
    Calls Try.prog 7 #[fv, lv, .int .u8 n] w fun e w' => e = .returned (.bool true) ∧ Below w.heap.size w w' := by
  have hnr : 0 ≤ n ∧ n ≤ 255 := by
    simp only [Lit.wf, Bool.and_eq_true, decide_eq_true_eq] at hn
    exact hn
  obtain ⟨k, rfl⟩ : ∃ k : Nat, n = (k : Int) := ⟨n.toNat, by omega⟩
  have hk8 : k < 256 := by omega
  clear hn hnr
  obtain ⟨fs, fc, rfl, fa, fb⟩ := LIn.form hf
  obtain ⟨ls, lc, rfl, la, lb⟩ := LIn.form hl
  unfold maxLen at fb lb
  have HF := Lib.hid hf
  have HL := Lib.hid hl
  clear hf hl
  obtain ⟨SK, hSK⟩ : ∃ b, b = (decide ((20 : Int) < (first.length : Int)) || decide ((12 : Int) < (al.length : Int)) || decide ((al.length : Int) < 2)) := ⟨_, rfl⟩
  have HSK := Lib.hid hSK
  clear hSK
  go_enter Try.func7, Try.ntmps7
  go_wp2_with (go_at_call 9; refine (or_awake _).mono ?_; rintro e w1 ⟨rfl, hf⟩; refine go_stop ?_)
  unfold Stop
  have HF1 := Lib.hid hf
  clear hf
  go_upto_region 2 with fail
  go_cut [27] (fun v wx => v = .bool SK ∧ wx = w1)
  case first =>
    by_cases g1 : decide ((20 : Int) < (first.length : Int)) = true
    · go_wp2_with fail
      go_meet
      exact ⟨by rw [HSK.out, g1]; rfl, rfl⟩
    · replace g1 : decide ((20 : Int) < (first.length : Int)) = false := by simpa using g1
      by_cases g2 : decide ((12 : Int) < (al.length : Int)) = true
      · go_wp2_with fail
        go_meet
        exact ⟨by rw [HSK.out, g1, g2]; rfl, rfl⟩
      · replace g2 : decide ((12 : Int) < (al.length : Int)) = false := by simpa using g2
        go_wp2_with fail
        go_meet
        exact ⟨by rw [HSK.out, g1, g2]; rfl, rfl⟩
  case rest =>
  obtain ⟨rfl, rfl⟩ := hcut
  obtain ⟨w1, hw1⟩ : ∃ x, x = wc := ⟨_, rfl⟩
  subst hw1
  cases SK
  · have hb : first.length ≤ 20 ∧ al.length ≤ 12 ∧ 2 ≤ al.length := by
      have h := HSK.out.symm
      simp only [Bool.or_eq_false_iff, decide_eq_false_iff_not] at h
      omega
    obtain ⟨hb1, hb2, hb3⟩ := hb
    obtain ⟨c, hc⟩ : ∃ c, al[0]? = some c := ⟨_, List.getElem?_eq_getElem (by omega)⟩
    obtain ⟨l, hld⟩ : ∃ l, l = al.drop 1 := ⟨_, rfl⟩
    have hll : al.length = l.length + 1 := by rw [hld, List.length_drop]; omega
    have HL1 : Hid (CaIn w1 (.slice ls al.length lc) al) := Lib.hid (LIn.keep0 HL.out HF1.out)
    obtain ⟨gl, ol, d2, e2, hgl, l2, k2⟩ := CaIn.here HL1.out (by omega)
    simp only [Value.slice.injEq] at e2
    obtain ⟨rfl, _, rfl⟩ := e2
    have Y1 := k2 0 c hc
    rw [Nat.zero_mul, Nat.add_zero] at Y1
    obtain ⟨y0, y1, y2, y3, y4⟩ := Y1
    have HLD := Lib.hid hld
    have hl1 : 1 ≤ l.length := by omega
    have hl11 : l.length < 12 := by omega
    clear hc k2 hld
    go_wp2_with (refine wpList_slice_from rfl (.tmp 29) (.const (.int .i64 1)) 23 31 (.agg #[.int .i64 0, .string ⟨#[]⟩, .bool false, .int .i64 0, .int .i64 0]) 5 48 rfl cr_slice cr_info _ _ al.length lc 1 l.length rfl rfl hll la ?sl)
    case sl =>
    intro off4 hcut
    have HD := Lib.hid (ca_drop HL1.out (m := l.length) (k := 1) hll hcut hgl)
    rw [← HLD.out] at HD
    have HLL := Lib.hid hll
    clear hcut hll
    go_upto_region 6 with fail
    obtain ⟨wb, hwb⟩ : ∃ wb, wb = w1.alloc (Obj.cells #[.int .i64 c.kind, .string c.key, .bool c.ok, .int .i64 c.inv, .int .i64 c.ret] 31) := ⟨_, rfl⟩
    rw [← hwb]
    have HBC : Hid (wb.heap[w1.heap.size]? = some (.cells #[.int .i64 c.kind, .string c.key, .bool c.ok, .int .i64 c.inv, .int .i64 c.ret] 31 (0, 0))) := Lib.hid (by rw [hwb]; exact new_block w1 _)
    have HFB : Hid (Fr [] w1 wb) := Lib.hid (by rw [hwb]; exact (Fr.refl [] w1).alloc _)
    have HMADE := Lib.hid (or_made _ l _ (LIn.keep0 HD.out HFB.out) (by omega))
    clear hwb y0 y1 y2 y3 y4
    go_wp2_with (go_at_call 10; refine HMADE.out.mono ?_; rintro e w2 ⟨v, rfl, ho, hf⟩; refine go_stop ?_)
    unfold Stop
    have hf2 : Fr [] w1 w2 := Fr.trans (T := []) HFB.out hf (by simp)
    have HF2 := Lib.hid hf2
    have HBC2 := Lib.hid (hf.keep HBC.out (by simp))
    obtain ⟨s3, c3, rfl, lb3, mb3⟩ := LAt.form ho.lies
    unfold maxLen at mb3
    have HX : Hid (CaOut w1 w2 (.slice s3 l.length c3) l) := Lib.hid ⟨ho.lies, fun k hk => Nat.le_trans HFB.out.size (ho.new k hk)⟩
    obtain ⟨R, hR⟩ : ∃ R, R = fitsB first l := ⟨_, rfl⟩
    have HR : Hid (Calls Try.prog 13 #[.slice fs first.length fc, .slice s3 l.length c3] w2 fun e w' => e = .returned (.bool R) ∧ Fr [] w2 w') := Lib.hid (by rw [hR]; exact or_fits _ _ first l w2 (LIn.keep0 HF.out (Fr.trans (T := []) HF1.out HF2.out (by simp))) (LAt.read ho.lies Ca.clen))
    have HRF := Lib.hid hR
    clear ho hf hf2 hR
    go_wp2_with (go_at_call 13; refine HR.out.mono ?_; rintro e w3 ⟨rfl, hf⟩; refine go_stop ?_)
    unfold Stop
    have HF3 := Lib.hid (Fr.trans (T := []) HF2.out hf (by simp))
    have HX3 := Lib.hid (HX.out.keep hf)
    have HBC3 := Lib.hid (hf.keep HBC2.out (by simp))
    clear hf
    cases R
    · go_wp2_with fail
      go_ret
      exact ⟨rfl, (Fr.trans (T := []) HF1.out HF3.out (by simp)).below (Nat.le_refl _) (by simp)⟩
    · obtain ⟨b0, b1, b2, b3, b4, _⟩ := cells5 HBC3.out
      go_upto_region 11 with fail
      obtain ⟨dd, hdd⟩ : ∃ dd : Ca, dd = ⟨c.kind, c.key, c.ok, c.inv, -1⟩ := ⟨_, rfl⟩
      obtain ⟨w4, hw4⟩ : ∃ W, W = w3.alloc (Obj.cells #[.int .i64 c.kind, .string c.key, .bool c.ok, .int .i64 c.inv, .int .i64 (-1)] 31) := ⟨_, rfl⟩
      rw [← hw4]
      have HDC : Hid (w4.heap[w3.heap.size]? = some (.cells #[.int .i64 c.kind, .string c.key, .bool c.ok, .int .i64 c.inv, .int .i64 (-1)] 31 (0, 0))) := Lib.hid (by rw [hw4]; exact new_block w3 _)
      have HF4 : Hid (Fr [] w3 w4) := Lib.hid (by rw [hw4]; exact (Fr.refl [] w3).alloc _)
      have HW4 : Hid (Fr [] w1 w4) := Lib.hid (Fr.trans (T := []) HF3.out HF4.out (by simp))
      have HX4 : Hid (∀ W, Fr [] w4 W → LAt Ca.cells 29 5 W (.slice s3 l.length c3) l) := Lib.hid fun W hW => (HX3.out.keep (Fr.trans (T := []) HF4.out hW (by simp))).lies
      have HCE : Hid (∀ W, Fr [] w4 W → W.cell? ⟨w3.heap.size, 0, none⟩ = some (.int .i64 c.kind) ∧ W.cell? ⟨w3.heap.size, 1, none⟩ = some (.string c.key) ∧ W.cell? ⟨w3.heap.size, 2, none⟩ = some (.bool c.ok) ∧ W.cell? ⟨w3.heap.size, 3, none⟩ = some (.int .i64 c.inv) ∧ W.cell? ⟨w3.heap.size, 4, none⟩ = some (.int .i64 (-1))) := Lib.hid fun W hW => by
        obtain ⟨q0, q1, q2, q3, q4, _⟩ := cells5 (hW.keep HDC.out (by simp))
        exact ⟨q0, q1, q2, q3, q4⟩
      have HDD := Lib.hid hdd
      have HLITF : Hid (∀ W : World, Fr [] w4 W → LAt Ca.cells 31 5 (W.alloc (.cells #[.int .i64 c.kind, .string c.key, .bool c.ok, .int .i64 c.inv, .int .i64 (-1)] 31)) (.slice (some ⟨W.heap.size, 0, none⟩) 1 1) [dd]) := Lib.hid fun W _ => by
        have h := lies_row (sz := 5) W 31 dd.cells rfl _ rfl
        rw [hdd] at h ⊢
        exact h
      clear hw4 hdd b0 b1 b2 b3 b4
      go_cut [12] (fun v wx => ∃ u, v = u ∧ CaOut w4 wx u (l ++ [dd]) ∧ Fr [] w4 wx)
      case first =>
        refine wp_region_held_drew (S := fun w' => w'.cell? ⟨w3.heap.size, 0, none⟩ = some (.int .i64 c.kind) ∧ w'.cell? ⟨w3.heap.size, 1, none⟩ = some (.string c.key) ∧ w'.cell? ⟨w3.heap.size, 2, none⟩ = some (.bool c.ok) ∧ w'.cell? ⟨w3.heap.size, 3, none⟩ = some (.int .i64 c.inv) ∧ w'.cell? ⟨w3.heap.size, 4, none⟩ = some (.int .i64 (-1))) (by kernel_rfl) (HCE.out w4.drew (Fr.refl [] w4).drew) (fun hHeld => ?_)
        have HG : Hid (Fr [] w4 w4.drew) := Lib.hid (Fr.refl [] w4).drew
        generalize w4.drew = wd at *
        refine wpAnyH_take (i := 1) (v := ?v4) (by simp only [List.getElem?_toArray, List.getElem?_cons_zero, List.getElem?_cons_succ]; rfl) (by kernel_rfl) (by kernel_rfl) (by kernel_rfl) (by exact fun _ _ _ h => h) (Or.inl ⟨by rfl, ?y4⟩) hHeld ?_
        case y4 => intro W hSw; (try dsimp only at hSw); go_simp; (try with_reducible rfl)
        simp only [Act.put, List.setIfInBounds_toArray, List.set_cons_zero, List.set_cons_succ]
        refine wpAnyH_take (i := 3) (v := ?v5) (by simp only [List.getElem?_toArray, List.getElem?_cons_zero, List.getElem?_cons_succ]; rfl) (by kernel_rfl) (by kernel_rfl) (by kernel_rfl) (by exact fun _ _ _ h => h) (Or.inl ⟨by rfl, ?y5⟩) hHeld ?_
        case y5 => intro W hSw; (try dsimp only at hSw); go_simp; (try with_reducible rfl)
        simp only [Act.put, List.setIfInBounds_toArray, List.set_cons_zero, List.set_cons_succ]
        refine wpAnyH_ready (rs := [0, 4]) (by kernel_rfl) (by simp) ?_
        refine AllReadyH.cons (by simp only [List.getElem?_toArray, List.getElem?_cons_zero, List.getElem?_cons_succ]; rfl) (fun K hK => ?_) (AllReadyH.cons (by simp only [List.getElem?_toArray, List.getElem?_cons_zero, List.getElem?_cons_succ]; rfl) (fun K hK => ?_) AllReadyH.nil)
        · go_simp
          have HG5 := Lib.hid (Fr.trans (T := []) HG.out ((Fr.refl [] wd).alloc (.cells #[] 29)) (by simp))
          have HE := Lib.hid (out_empty w4 wd HG.out.size)
          have HSw5 := Lib.hid (World.size_alloc wd (.cells #[] 29))
          generalize wd.alloc (.cells #[] 29) = w5 at *
          refine hK.out _ _ (HCE.out _ HG5.out) (fun hHeld => ?_)
          clear hK K
          refine wpAnyH_ready (rs := [2, 4]) (by kernel_rfl) (by simp) ?_
          refine AllReadyH.cons (by simp only [List.getElem?_toArray, List.getElem?_cons_zero, List.getElem?_cons_succ]; rfl) (fun K hK => ?_) (AllReadyH.cons (by simp only [List.getElem?_toArray, List.getElem?_cons_zero, List.getElem?_cons_succ]; rfl) (fun K hK => ?_) AllReadyH.nil)
          · refine step_append_any (by rfl) (.tmp 43) (.tmp 44) 25 29 (.agg #[.int .i64 0, .string ⟨#[]⟩, .bool false, .int .i64 0, .int .i64 0]) 5 48 (by rfl) ca_slice ca_info rfl (by decide) _ 0 (allC Ca.cells []) (by rfl) HE.out.lies _ l.length (allC Ca.cells l) (by rfl) (HX4.out _ HG5.out) (allC_ones Ca.cone l) (by unfold maxLen; omega) (by omega) ?_
            intro v2 w6 ho2 hf2 hn2
            have HA := Lib.hid (OutAt.app HE.out HG5.out.size (xs := l) ho2 rfl hn2)
            have HG6 := Lib.hid (OutAt.fr HE.out HG5.out hf2)
            clear ho2 hf2 hn2
            refine hK.out _ _ (HCE.out _ HG6.out) (fun hHeld => ?_)
            clear hK K
            refine wpAnyH_ready (rs := [4]) (by kernel_rfl) (by simp) ?_
            refine AllReadyH.cons (by simp only [List.getElem?_toArray, List.getElem?_cons_zero, List.getElem?_cons_succ]; rfl) (fun K hK => ?_) AllReadyH.nil
            go_simp
            have HG7 := Lib.hid (Fr.trans (T := []) HG6.out ((Fr.refl [] w6).alloc (.cells #[.int .i64 c.kind, .string c.key, .bool c.ok, .int .i64 c.inv, .int .i64 (-1)] 31)) (by simp))
            have HLT := Lib.hid (HLITF.out w6 HG6.out)
            have HA7 := Lib.hid (HA.out.keep ((Fr.refl [] _).alloc (.cells #[.int .i64 c.kind, .string c.key, .bool c.ok, .int .i64 c.inv, .int .i64 (-1)] 31)))
            have HSw7 := Lib.hid (World.size_alloc w6 (.cells #[.int .i64 c.kind, .string c.key, .bool c.ok, .int .i64 c.inv, .int .i64 (-1)] 31))
            generalize w6.alloc (.cells #[.int .i64 c.kind, .string c.key, .bool c.ok, .int .i64 c.inv, .int .i64 (-1)] 31) = w7 at *
            refine hK.out _ _ (HCE.out _ HG7.out) (fun hHeld => ?_)
            clear hK K
            refine wpAnyH_ready (rs := [5]) (by kernel_rfl) (by simp) ?_
            refine AllReadyH.cons (by simp only [List.getElem?_toArray, List.getElem?_cons_zero, List.getElem?_cons_succ]; rfl) (fun K hK => ?_) AllReadyH.nil
            go_simp
            go_at_call 10
            refine (or_made _ [dd] _ (LAt.read HLT.out Ca.clen) (by simp)).mono ?_
            rintro e w8 ⟨v3, rfl, ho, hf⟩
            have HG8 := Lib.hid (Fr.trans (T := []) HG7.out hf (by simp))
            have HA8 := Lib.hid (HA7.out.keep hf)
            have HM := Lib.hid ho.lies
            clear hf ho
            refine hK.out _ _ (HCE.out _ HG8.out) (fun hHeld => ?_)
            clear hK K
            refine wpAnyH_ready (rs := [6]) (by kernel_rfl) (by simp) ?_
            refine AllReadyH.cons (by simp only [List.getElem?_toArray, List.getElem?_cons_zero, List.getElem?_cons_succ]; rfl) (fun K hK => ?_) AllReadyH.nil
            refine step_append_any (by rfl) (.tmp 45) (.tmp 48) 25 29 (.agg #[.int .i64 0, .string ⟨#[]⟩, .bool false, .int .i64 0, .int .i64 0]) 5 48 (by rfl) ca_slice ca_info rfl (by decide) _ l.length (allC Ca.cells l) (by rfl) HA8.out.lies _ 1 (allC Ca.cells [dd]) (by rfl) HM.out (allC_ones Ca.cone [dd]) (by unfold maxLen; omega) (by omega) ?_
            intro v4 w9 ho2 hf2 hn2
            have HA9 := Lib.hid (OutAt.app HA8.out HG8.out.size (xs := [dd]) ho2 rfl hn2)
            have HG9 := Lib.hid (OutAt.fr HA8.out HG8.out hf2)
            clear ho2 hf2 hn2
            refine hK.out _ _ (HCE.out _ HG9.out) (fun hHeld => ?_)
            clear hK K
            refine wpAnyH_take (i := 7) (v := ?v1) (by simp only [List.getElem?_toArray, List.getElem?_cons_zero, List.getElem?_cons_succ]; rfl) (by kernel_rfl) (by kernel_rfl) (by kernel_rfl) (by exact fun _ _ _ h => h) (Or.inl ⟨by rfl, ?y1⟩) hHeld ?_
            case y1 => intro W hSw; (try dsimp only at hSw); go_simp; (try with_reducible rfl)
            simp only [Act.put, List.setIfInBounds_toArray, List.set_cons_zero, List.set_cons_succ]
            refine wpAnyH_done (by kernel_rfl) ?_ _
            clear hHeld
            go_wp2_with fail
            go_meet
            exact ⟨_, rfl, HA9.out, HG9.out⟩
          · go_simp
            have HG6 := Lib.hid (Fr.trans (T := []) HG5.out ((Fr.refl [] w5).alloc (.cells #[.int .i64 c.kind, .string c.key, .bool c.ok, .int .i64 c.inv, .int .i64 (-1)] 31)) (by simp))
            have HLT := Lib.hid (HLITF.out w5 HG5.out)
            have HE2 := Lib.hid (HE.out.keep ((Fr.refl [] _).alloc (.cells #[.int .i64 c.kind, .string c.key, .bool c.ok, .int .i64 c.inv, .int .i64 (-1)] 31)))
            have HSw7 := Lib.hid (World.size_alloc w5 (.cells #[.int .i64 c.kind, .string c.key, .bool c.ok, .int .i64 c.inv, .int .i64 (-1)] 31))
            generalize w5.alloc (.cells #[.int .i64 c.kind, .string c.key, .bool c.ok, .int .i64 c.inv, .int .i64 (-1)] 31) = w7 at *
            refine hK.out _ _ (HCE.out _ HG6.out) (fun hHeld => ?_)
            clear hK K
            refine wpAnyH_ready (rs := [2]) (by kernel_rfl) (by simp) ?_
            refine AllReadyH.cons (by simp only [List.getElem?_toArray, List.getElem?_cons_zero, List.getElem?_cons_succ]; rfl) (fun K hK => ?_) AllReadyH.nil
            refine step_append_any (by rfl) (.tmp 43) (.tmp 44) 25 29 (.agg #[.int .i64 0, .string ⟨#[]⟩, .bool false, .int .i64 0, .int .i64 0]) 5 48 (by rfl) ca_slice ca_info rfl (by decide) _ 0 (allC Ca.cells []) (by rfl) HE2.out.lies _ l.length (allC Ca.cells l) (by rfl) (HX4.out _ HG6.out) (allC_ones Ca.cone l) (by unfold maxLen; omega) (by omega) ?_
            intro v2 w6 ho2 hf2 hn2
            have HA := Lib.hid (OutAt.app HE2.out HG6.out.size (xs := l) ho2 rfl hn2)
            have HG7 := Lib.hid (OutAt.fr HE2.out HG6.out hf2)
            have HLT2 := Lib.hid (LAt.keep HLT.out hf2 (by have := HSw5.out; intro k hk; simp [Value.ownBlock] at hk ⊢; omega))
            clear ho2 hf2 hn2
            refine hK.out _ _ (HCE.out _ HG7.out) (fun hHeld => ?_)
            clear hK K
            have HA7 := HA
            refine wpAnyH_ready (rs := [5]) (by kernel_rfl) (by simp) ?_
            refine AllReadyH.cons (by simp only [List.getElem?_toArray, List.getElem?_cons_zero, List.getElem?_cons_succ]; rfl) (fun K hK => ?_) AllReadyH.nil
            go_simp
            go_at_call 10
            refine (or_made _ [dd] _ (LAt.read HLT2.out Ca.clen) (by simp)).mono ?_
            rintro e w8 ⟨v3, rfl, ho, hf⟩
            have HG8 := Lib.hid (Fr.trans (T := []) HG7.out hf (by simp))
            have HA8 := Lib.hid (HA7.out.keep hf)
            have HM := Lib.hid ho.lies
            clear hf ho
            refine hK.out _ _ (HCE.out _ HG8.out) (fun hHeld => ?_)
            clear hK K
            refine wpAnyH_ready (rs := [6]) (by kernel_rfl) (by simp) ?_
            refine AllReadyH.cons (by simp only [List.getElem?_toArray, List.getElem?_cons_zero, List.getElem?_cons_succ]; rfl) (fun K hK => ?_) AllReadyH.nil
            refine step_append_any (by rfl) (.tmp 45) (.tmp 48) 25 29 (.agg #[.int .i64 0, .string ⟨#[]⟩, .bool false, .int .i64 0, .int .i64 0]) 5 48 (by rfl) ca_slice ca_info rfl (by decide) _ l.length (allC Ca.cells l) (by rfl) HA8.out.lies _ 1 (allC Ca.cells [dd]) (by rfl) HM.out (allC_ones Ca.cone [dd]) (by unfold maxLen; omega) (by omega) ?_
            intro v4 w9 ho2 hf2 hn2
            have HA9 := Lib.hid (OutAt.app HA8.out HG8.out.size (xs := [dd]) ho2 rfl hn2)
            have HG9 := Lib.hid (OutAt.fr HA8.out HG8.out hf2)
            clear ho2 hf2 hn2
            refine hK.out _ _ (HCE.out _ HG9.out) (fun hHeld => ?_)
            clear hK K
            refine wpAnyH_take (i := 7) (v := ?v2) (by simp only [List.getElem?_toArray, List.getElem?_cons_zero, List.getElem?_cons_succ]; rfl) (by kernel_rfl) (by kernel_rfl) (by kernel_rfl) (by exact fun _ _ _ h => h) (Or.inl ⟨by rfl, ?y2⟩) hHeld ?_
            case y2 => intro W hSw; (try dsimp only at hSw); go_simp; (try with_reducible rfl)
            simp only [Act.put, List.setIfInBounds_toArray, List.set_cons_zero, List.set_cons_succ]
            refine wpAnyH_done (by kernel_rfl) ?_ _
            clear hHeld
            go_wp2_with fail
            go_meet
            exact ⟨_, rfl, HA9.out, HG9.out⟩
        · go_simp
          have HG5 := Lib.hid (Fr.trans (T := []) HG.out ((Fr.refl [] wd).alloc (.cells #[.int .i64 c.kind, .string c.key, .bool c.ok, .int .i64 c.inv, .int .i64 (-1)] 31)) (by simp))
          have HLT := Lib.hid (HLITF.out wd HG.out)
          have HSw5 := Lib.hid (World.size_alloc wd (.cells #[.int .i64 c.kind, .string c.key, .bool c.ok, .int .i64 c.inv, .int .i64 (-1)] 31))
          generalize wd.alloc (.cells #[.int .i64 c.kind, .string c.key, .bool c.ok, .int .i64 c.inv, .int .i64 (-1)] 31) = w5 at *
          refine hK.out _ _ (HCE.out _ HG5.out) (fun hHeld => ?_)
          clear hK K
          refine wpAnyH_ready (rs := [0]) (by kernel_rfl) (by simp) ?_
          refine AllReadyH.cons (by simp only [List.getElem?_toArray, List.getElem?_cons_zero, List.getElem?_cons_succ]; rfl) (fun K hK => ?_) AllReadyH.nil
          go_simp
          have HG6 := Lib.hid (Fr.trans (T := []) HG5.out ((Fr.refl [] w5).alloc (.cells #[] 29)) (by simp))
          have HLT3 := Lib.hid (LAt.keep0 HLT.out ((Fr.refl [] _).alloc (.cells #[] 29)))
          have HE := Lib.hid (out_empty w4 w5 HG5.out.size)
          have HSw7 := Lib.hid (World.size_alloc w5 (.cells #[] 29))
          generalize w5.alloc (.cells #[] 29) = w7 at *
          refine hK.out _ _ (HCE.out _ HG6.out) (fun hHeld => ?_)
          clear hK K
          refine wpAnyH_ready (rs := [2]) (by kernel_rfl) (by simp) ?_
          refine AllReadyH.cons (by simp only [List.getElem?_toArray, List.getElem?_cons_zero, List.getElem?_cons_succ]; rfl) (fun K hK => ?_) AllReadyH.nil
          refine step_append_any (by rfl) (.tmp 43) (.tmp 44) 25 29 (.agg #[.int .i64 0, .string ⟨#[]⟩, .bool false, .int .i64 0, .int .i64 0]) 5 48 (by rfl) ca_slice ca_info rfl (by decide) _ 0 (allC Ca.cells []) (by rfl) HE.out.lies _ l.length (allC Ca.cells l) (by rfl) (HX4.out _ HG6.out) (allC_ones Ca.cone l) (by unfold maxLen; omega) (by omega) ?_
          intro v2 w6 ho2 hf2 hn2
          have HA := Lib.hid (OutAt.app HE.out HG6.out.size (xs := l) ho2 rfl hn2)
          have HG7 := Lib.hid (OutAt.fr HE.out HG6.out hf2)
          have HLT2 := Lib.hid (LAt.keep HLT3.out hf2 (by have := HSw5.out; intro k hk; simp [Value.ownBlock] at hk ⊢; omega))
          clear ho2 hf2 hn2
          refine hK.out _ _ (HCE.out _ HG7.out) (fun hHeld => ?_)
          clear hK K
          have HA7 := HA
          refine wpAnyH_ready (rs := [5]) (by kernel_rfl) (by simp) ?_
          refine AllReadyH.cons (by simp only [List.getElem?_toArray, List.getElem?_cons_zero, List.getElem?_cons_succ]; rfl) (fun K hK => ?_) AllReadyH.nil
          go_simp
          go_at_call 10
          refine (or_made _ [dd] _ (LAt.read HLT2.out Ca.clen) (by simp)).mono ?_
          rintro e w8 ⟨v3, rfl, ho, hf⟩
          have HG8 := Lib.hid (Fr.trans (T := []) HG7.out hf (by simp))
          have HA8 := Lib.hid (HA7.out.keep hf)
          have HM := Lib.hid ho.lies
          clear hf ho
          refine hK.out _ _ (HCE.out _ HG8.out) (fun hHeld => ?_)
          clear hK K
          refine wpAnyH_ready (rs := [6]) (by kernel_rfl) (by simp) ?_
          refine AllReadyH.cons (by simp only [List.getElem?_toArray, List.getElem?_cons_zero, List.getElem?_cons_succ]; rfl) (fun K hK => ?_) AllReadyH.nil
          refine step_append_any (by rfl) (.tmp 45) (.tmp 48) 25 29 (.agg #[.int .i64 0, .string ⟨#[]⟩, .bool false, .int .i64 0, .int .i64 0]) 5 48 (by rfl) ca_slice ca_info rfl (by decide) _ l.length (allC Ca.cells l) (by rfl) HA8.out.lies _ 1 (allC Ca.cells [dd]) (by rfl) HM.out (allC_ones Ca.cone [dd]) (by unfold maxLen; omega) (by omega) ?_
          intro v4 w9 ho2 hf2 hn2
          have HA9 := Lib.hid (OutAt.app HA8.out HG8.out.size (xs := [dd]) ho2 rfl hn2)
          have HG9 := Lib.hid (OutAt.fr HA8.out HG8.out hf2)
          clear ho2 hf2 hn2
          refine hK.out _ _ (HCE.out _ HG9.out) (fun hHeld => ?_)
          clear hK K
          refine wpAnyH_take (i := 7) (v := ?v3) (by simp only [List.getElem?_toArray, List.getElem?_cons_zero, List.getElem?_cons_succ]; rfl) (by kernel_rfl) (by kernel_rfl) (by kernel_rfl) (by exact fun _ _ _ h => h) (Or.inl ⟨by rfl, ?y3⟩) hHeld ?_
          case y3 => intro W hSw; (try dsimp only at hSw); go_simp; (try with_reducible rfl)
          simp only [Act.put, List.setIfInBounds_toArray, List.set_cons_zero, List.set_cons_succ]
          refine wpAnyH_done (by kernel_rfl) ?_ _
          clear hHeld
          go_wp2_with fail
          go_meet
          exact ⟨_, rfl, HA9.out, HG9.out⟩
      case rest =>
      obtain ⟨v4, hv4, ho, hf⟩ := hcut
      subst hv4
      obtain ⟨w9, hw9⟩ : ∃ x, x = wc := ⟨_, rfl⟩
      subst hw9
      obtain ⟨s4, c4, hv4, lb4, mb4⟩ := LAt.form ho.lies
      subst hv4
      have HM9 := Lib.hid ho
      have HG9 := Lib.hid hf
      have HE := out_empty w9 w9 (Nat.le_refl _)
      clear ho hf
      go_wp2_with (at_builtin; refine wpList_append_any rfl (.tmp 50) (.tmp 51) 25 29 (.agg #[.int .i64 0, .string ⟨#[]⟩, .bool false, .int .i64 0, .int .i64 0]) 5 48 rfl ca_slice ca_info rfl (by decide) _ 0 (allC Ca.cells []) rfl HE.lies _ l.length (allC Ca.cells l) rfl (HX4.out _ (Fr.trans (T := []) HG9.out ((Fr.refl [] _).alloc _) (by simp))) (allC_ones Ca.cone l) (by unfold maxLen; omega) (by omega) ?app)
      case app =>
      intro v6 w10 ho2 hf2 hn2
      have ho6 : CaOut w9 w10 v6 l := OutAt.app HE (by simp) (xs := l) (by rw [List.length_nil, Nat.zero_add]; exact ho2) rfl hn2
      have hf6 : Fr [] w9 w10 := OutAt.fr HE ((Fr.refl [] _).alloc _) hf2
      obtain ⟨go, oo, co, ev6, hgo, _, ko⟩ := LAt.here ho6.lies Ca.clen (by omega)
      subst ev6
      have HO6 := Lib.hid ho6
      have HF6 := Lib.hid hf6
      clear ho2 hf2 hn2 HE ho6 hf6 ko
      obtain ⟨kk, hkk⟩ : ∃ m, m = k % l.length := ⟨_, rfl⟩
      have hkl : kk < l.length := by rw [hkk]; exact Nat.mod_lt _ (by omega)
      have r1 : (k : Int) % (l.length : Int) = (kk : Int) := by rw [hkk]; simp
      have r2 : Int.tmod (k : Int) (l.length : Int) = (kk : Int) := by rw [hkk]; exact (Int.ofNat_tmod _ _).symm
      have hn0 : 0 < l.length := by omega
      have q2 : IntKind.i64.wrap (k : Int) = (k : Int) := IntWalk.i64_in _ ⟨by omega, by omega⟩
      obtain ⟨y, hy⟩ : ∃ y, l[kk]? = some y := ⟨_, List.getElem?_eq_getElem hkl⟩
      have i4 := CaOut.cellN HO6.out hy 4 (by decide) _ rfl
      obtain ⟨i4, j4, l4⟩ := i4
      have HY := Lib.hid hy
      clear hy hkk
      have HNG := HO6.out.new go rfl
      have HSO : Hid (CaOut w9 (w10.setCell ⟨go, oo + kk * 5 + 4, none⟩ (.int .i64 (-1))) (.slice (some ⟨go, oo, none⟩) l.length co) (l.set kk { y with ret := -1 })) := Lib.hid (CaOut.setN HO6.out rfl HY.out (by decide) rfl)
      have HFO : Hid (Fr [] w9 (w10.setCell ⟨go, oo + kk * 5 + 4, none⟩ (.int .i64 (-1)))) := Lib.hid (HF6.out.setCell (Or.inr HNG) _)
      clear HNG
      go_upto_region 14 with fail
      generalize w10.setCell ⟨go, oo + kk * 5 + 4, none⟩ (.int .i64 (-1)) = wS at *
      have HFA : Hid (Fr [] w wS) := Lib.hid (Fr.trans (T := []) HF1.out (Fr.trans (T := []) HW4.out (Fr.trans (T := []) HG9.out HFO.out (by simp)) (by simp)) (by simp))
      have HR1 : Hid (Calls Try.prog 13 #[.slice fs first.length fc, .slice s4 (l.length + 1) c4] wS fun e w' => e = .returned (.bool true) ∧ Fr [] wS w') := Lib.hid (by
        have h := or_fits (.slice fs first.length fc) (.slice s4 (l.length + 1) c4) first (l ++ [dd]) wS (LIn.keep0 HF.out HFA.out) (by
          have q := LAt.read (HM9.out.keep HFO.out).lies Ca.clen
          rw [List.length_append] at q
          exact q)
        rw [fitsB_true.2 (fits_more (fitsB_true.1 HRF.out.symm) hl11 (by rw [HDD.out]; show (-1 : Int) < 0; decide))] at h
        exact h)
      have HR2 : Hid (∀ W, Fr [] wS W → Calls Try.prog 13 #[.slice fs first.length fc, .slice (some ⟨go, oo, none⟩) l.length co] W fun e w' => e = .returned (.bool true) ∧ Fr [] W w') := Lib.hid fun W hW => by
        have h := or_fits (.slice fs first.length fc) (.slice (some ⟨go, oo, none⟩) l.length co) first (l.set kk { y with ret := -1 }) W (LIn.keep0 HF.out (Fr.trans (T := []) HFA.out hW (by simp))) (by
          have q := LAt.read (HSO.out.keep hW).lies Ca.clen
          exact q)
        rw [fitsB_true.2 (fits_open (fitsB_true.1 HRF.out.symm) HY.out)] at h
        exact h
      clear i4 j4 l4 r1 r2 q2
      go_wp2_with (go_at_call 13; refine HR1.out.mono ?_; rintro e w11 ⟨rfl, hf⟩; refine go_stop ?_)
      unfold Stop
      have HF11 := Lib.hid hf
      clear hf
      go_wp2_with (go_at_call 13; refine (HR2.out _ HF11.out).mono ?_; rintro e w12 ⟨rfl, hf⟩; have HF12 := Lib.hid (Fr.trans (T := []) HF11.out hf (by simp)); clear hf)
      go_ret
      exact ⟨rfl, (Fr.trans (T := []) HFA.out HF12.out (by simp)).below (Nat.le_refl _) (by simp)⟩
  · go_wp2_with fail
    go_ret
    exact ⟨rfl, HF1.out.below (Nat.le_refl _) (by simp)⟩

set_option maxRecDepth 100000 in
theorem contract (H : Type) (enc : TypeId × Value → H) (W : World) (base : Nat) (args : Array Value) (ds gs : List (DataW H)) (before : List MemPlace)
    (hval0 : ∀ (j : Nat) t v, Try.f7.params[j]? = some t → args[j]? = some v → Value.okWide Try.prog W .any base t v)
    (hW : DataW.Whole enc Try.prog Try.f7.params.toList Rows.orderMoreSpec.vars false W args.toList ds gs before) :
    Calls Try.prog 7 args W fun e W' => ∃ v, e = .returned v ∧ Rows.orderMoreSpec.post enc Try.prog Try.f7 false true false false W args v W' := by
  have hval : ∀ (j : Nat) t v, Try.f7.params[j]? = some t → args[j]? = some v → Value.okWide Try.prog W .any base t v := hval0
  have hW' := hW
  obtain ⟨p, q, hA0, hV, rfl, hfz, hnd⟩ := hW
  have hA : DataW.TrodAll enc Try.prog W 0 (fun _ => true) true Try.f7.params.toList args.toList ds p := hA0
  rw [Try.params7] at hA hval
  obtain ⟨v0, vs0, d0, ds0, p0, q0, hargs, rfl, rfl, h0, r0⟩ := trodAll_cons hA
  obtain ⟨v1, vs1, d1, ds1, p1, q1, rfl, rfl, rfl, h1, r1⟩ := trodAll_cons r0
  obtain ⟨v2, vs2, d2, ds2, p2, q2, rfl, rfl, rfl, h2, r2⟩ := trodAll_cons r1
  obtain ⟨rfl, rfl, rfl⟩ := trodAll_nil r2
  obtain rfl : args = #[v0, v1, v2] := by cases args; simp_all
  obtain ⟨rfl, rfl⟩ := trodVars_none hV
  have k0 := h0
  have lt0 : ∀ x ∈ p0, x.block < W.heap.size := by obtain ⟨m, hm⟩ := k0; exact DataW.trod_lt m _ _ _ hm
  have k1 := h1
  have lt1 : ∀ x ∈ p1, x.block < W.heap.size := by obtain ⟨m, hm⟩ := k1; exact DataW.trod_lt m _ _ _ hm
  have k2 := h2
  have lt2 : ∀ x ∈ p2, x.block < W.heap.size := by obtain ⟨m, hm⟩ := k2; exact DataW.trod_lt m _ _ _ hm
  obtain ⟨first, hfirst⟩ := open_strs (hval 0 22 v0 rfl rfl) h0
  obtain ⟨l, hl⟩ := open_cas (hval 1 23 v1 rfl rfl) h1
  obtain ⟨a, rfl, _, _, wa⟩ := open_int Try.underlying5 (hval 2 5 v2 rfl rfl) h2
  clear hA0 hval0 hval
  refine (walk v0 v1 first l a W hfirst hl wa).mono fun e W' ⟨he, bel⟩ => ?_
  subst he
  exact ⟨_, rfl, _, _, _, [], _, [], hW', trodAll_mk1 (shut_bool Try.underlying4 _), (trodAll_cons_mk (Below.trod laid_prog (by kernel_rfl) (of_decide_eq_true (by kernel_rfl)) k0 bel lt0) (trodAll_cons_mk (Below.trod laid_prog (by kernel_rfl) (of_decide_eq_true (by kernel_rfl)) k1 bel lt1) (trodAll_cons_mk (Below.trod laid_prog (by kernel_rfl) (of_decide_eq_true (by kernel_rfl)) k2 bel lt2) trodAll_mk0))), rfl, bel.frame _, fun h => by cases h⟩

set_option maxRecDepth 100000 in
theorem lifted (os : Os) (started : os.Started) (H : Type) (enc : TypeId × Value → H) :
    ReturnsInHanded {} Try.checked os 7 .any (Rows.orderMoreSpec.pre6 enc Try.prog Try.f7 Rows.orderMoreRow.domain false) (Rows.orderMoreSpec.post enc Try.prog Try.f7 false true false false) := by
  refine returnsInHanded_of_change (C := Try.checked) own_prog started (by kernel_rfl) Try.func7
    (ChangeSpec.witness6 (enc := enc) (C := Try.checked) false ⟨#[], #[.slice none 0 0, .slice none 0 0, .int .u8 0], []⟩ 8 (by kernel_rfl) (by kernel_rfl) (by kernel_rfl) (by kernel_rfl)) ?_
  intro W base args ds gs before hval hW _ _
  exact contract H enc W base args ds gs before hval hW

theorem proved : Rows.OrderMoreSaid :=
  OpenClaim.holds_of_wide 7 Try.f7 rfl rfl rfl rfl rfl rfl rfl ⟨rfl, rfl, rfl, rfl, rfl⟩ rfl rfl rfl rfl rfl (by kernel_rfl) Try.func7 (by kernel_rfl)
    (of_decide_eq_true (by kernel_rfl)) (by unfold Func.isWrapper; first | (rw [if_pos (by decide +kernel)]; kernel_rfl) | (rw [if_neg (by decide +kernel)]; exact ⟨rfl, rfl⟩))
    (fun os started H enc _ => lifted os started H enc)

end Go.Proofs.Ytbbhekmhffhpfaa.lawOrderMore
