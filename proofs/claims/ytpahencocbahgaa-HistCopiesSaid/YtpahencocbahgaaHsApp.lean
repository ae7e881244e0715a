/- THE DOCUMENT's hist (impostref06): Apply: its contract -/
import Derived.Test.YtpahencocbahgaaHsMap
import Derived.Test.YtpahencocbahgaaEvCut
namespace Go.Proofs.Ytpahencocbahgaa
open Go.RowKit
set_option linter.unusedVariables false
set_option linter.unusedSimpArgs false

theorem RowsF.src {S : List Nat} {w : World} {v : Value} {rows : List (List Ev)} {vs : List Value} (h1 : vs.length = rows.length) (h : LFar S uC 1 w v vs) : Src w 1 v rows.length vs := by
  have := LIn.src h.1 uC.len (by decide)
  rw [h1] at this
  have e : allC uC vs = vs := by unfold allC uC; clear h h1 this; induction vs with
    | nil => rfl
    | cons x r ih => rw [List.map_cons, List.flatten_cons, ih]; rfl
  rw [e] at this
  exact this
theorem allU (vs : List Value) : allC uC vs = vs := by
  unfold allC uC
  induction vs with
  | nil => rfl
  | cons x r ih => rw [List.map_cons, List.flatten_cons, ih]; rfl
theorem map_take_snoc {α β : Type} {l : List α} {j : Nat} {x : α} (f : α → β) (hx : l[j]? = some x) : (l.take (j + 1)).map f = (l.take j).map f ++ [f x] := by
  rw [take_snoc hx, List.map_append]; rfl
set_option maxHeartbeats 4000000 in
theorem rapply_any (S : List Nat) (rv ov : Value) (rows : List (List Ev)) (ops : List Od) (hor : Int) (w : World) (hr : RowsF S w rv rows) (ho : OdIn w ov ops) (hS : ∀ k ∈ S, k < w.heap.size) (b1 : rows.flatten.length ≤ many) (b2 : rows.length ≤ many) (b3 : ops.length ≤ many) :
    Calls Try.prog 29 #[.agg #[rv, .int .i64 hor], ov] w fun e w' => ∃ rv' row, e = .returned (.tuple #[.agg #[rv', .int .i64 hor], row]) ∧ RowsF S w' rv' (putR rows (rowOf rows ops)) ∧ LFar S Ev.cells 4 w' row (rowOf rows ops) ∧ Fr [] w w' := by
  have HB1 := Lib.hid b1
  have HB2 := Lib.hid b2
  have HB3 := Lib.hid b3
  unfold many at b2 b3
  obtain ⟨s1, c1, rfl, la, ma⟩ := hr.form
  obtain ⟨s2, c2, rfl, la2, ma2⟩ := LIn.form ho
  unfold maxLen at ma ma2
  have HR := Lib.hid hr
  have HO := Lib.hid ho
  have HS := Lib.hid hS
  obtain ⟨wb, hwb⟩ : ∃ wb, wb = (w.alloc (Obj.cells #[.slice s1 rows.length c1, .int .i64 hor] 36)).alloc (Obj.cells #[.slice none 0 0, .int .i64 0] 36) := ⟨_, rfl⟩
  have HWB := Lib.hid hwb
  have HX : Hid (wb.heap[w.heap.size]? = some (.cells #[.slice s1 rows.length c1, .int .i64 hor] 36 (0, 0))) := Lib.hid (by rw [hwb]; exact blk_new2 _ _ _)
  have HY : Hid (wb.heap[w.heap.size + 1]? = some (.cells #[.slice none 0 0, .int .i64 0] 36 (0, 0))) := Lib.hid (by rw [hwb]; have := new_block (w.alloc (Obj.cells #[.slice s1 rows.length c1, .int .i64 hor] 36)) (Obj.cells #[.slice none 0 0, .int .i64 0] 36); simpa using this)
  have HF0 : Hid (Fr [] w wb) := Lib.hid (by rw [hwb]; exact ((Fr.refl [] w).alloc _).alloc _)
  have HZ : Hid (wb.heap.size = w.heap.size + 2) := Lib.hid (by rw [hwb]; simp)
  clear hwb hr ho hS b1
  obtain ⟨b0, b1, _⟩ := cells2 HX.out
  go_enter Try.func29, Try.ntmps29
  go_wp2_with fail
  rw [← HWB.out]
  go_wp2_with (go_at_call 42; refine (rmap6_any S _ rows hor rows.length _ (HR.out.keep0 HF0.out) HB1.out HB2.out).mono ?_; rintro e w1 ⟨v1, rfl, h1, h2⟩; refine go_stop ?_)
  unfold Stop
  rw [Int.toNat_natCast] at h1
  have HM := Lib.hid h1
  have HF1 := Lib.hid h2
  obtain ⟨sm, cm, rfl, _, _⟩ := h1.form
  clear h1 h2 b0 b1
  go_wp2_with (go_at_call 41; refine (rcount_any _ _ (mapN rows rows.length) ops _ HM.out (LIn.keep0 HO.out (HF0.out.trans HF1.out (by simp))) (by have := mapN_len' rows rows.length HB1.out; omega) HB3.out).mono ?_; rintro e w2 ⟨v2, rfl, h1, h2⟩; refine go_stop ?_)
  unfold Stop
  have HC := Lib.hid (LAt.read h1.lies Od.clen)
  have HF2 := Lib.hid (HF1.out.trans h2 (by simp))
  obtain ⟨cl, hcl⟩ : ∃ cl, cl = countO (mapN rows rows.length) ops := ⟨_, rfl⟩
  have hcll : cl.length ≤ ops.length := by rw [hcl]; exact countO_len _ _
  have HCL : Hid (rowOf rows ops = cl.map (Od.ev (rows.length + 1))) := Lib.hid (by rw [hcl]; rfl)
  rw [← hcl] at HC
  obtain ⟨s3, c3, rfl, la3, ma3⟩ := LIn.form HC.out
  unfold maxLen at ma3
  obtain ⟨b0, b1, _⟩ := cells2 (HF2.out.keep HX.out (by simp))
  obtain ⟨y0, y1, yf⟩ := cells2 (HF2.out.keep HY.out (by simp))
  have yf0 := yf 0
  have yf1 := yf 1
  clear h1 h2 hcl HM yf
  by_cases hn : cl.length = 0
  · have t1 : ((cl.length : Int) == 0) = true := by rw [beq_iff_eq]; omega
    have HE : Hid (rowOf rows ops = []) := Lib.hid (by rw [HCL.out, List.eq_nil_of_length_eq_zero hn]; rfl)
    go_wp2_with fail
    refine bodyPost_ret (v := .tuple #[.agg #[.slice s1 rows.length c1, .int .i64 hor], .slice none 0 0]) (by simp [results, Try.results29, go_sem, *]) rfl ?_
    have hfin := (((HF0.out.trans HF2.out (by simp)).setCell (p := ⟨w.heap.size + 1, 0, none⟩) (Or.inr (by simp)) (.slice s1 rows.length c1)).setCell (p := ⟨w.heap.size + 1, 1, none⟩) (Or.inr (by simp)) (.int .i64 hor))
    refine ⟨_, _, rfl, ?_, ?_, hfin⟩
    · rw [HE.out]; exact HR.out.keep0 hfin
    · rw [HE.out]; exact LFar.nil _ _
  · have t1 : ((cl.length : Int) == 0) = false := by rw [beq_eq_false_iff_ne]; omega
    go_wp2_with fail
    go_loopw [7, 8] (fun v i wr => ∃ (j : Nat) (o : List Ev), i = .int .i64 j ∧ j ≤ cl.length ∧ OutAt Ev.cells 70 4 w2 wr v o ∧ o = (cl.take j).map (Od.ev (rows.length + 1)) ∧ Fr [] w2 wr) (fun _ i _ => cl.length - (intOf i).toNat)
    case atStart => exact ⟨0, [], rfl, Nat.zero_le _, OutAt.nil _ _, rfl, Fr.refl _ _⟩
    case round =>
      clear b0 b1 y0 y1 yf0 yf1
      obtain ⟨j, o, rfl, hj, ho, hs, hf⟩ := hrel
      have hol : o.length ≤ j := by rw [hs, List.length_map, List.length_take]; omega
      have HOO := Lib.hid ho
      have HSS := Lib.hid hs
      have HF := Lib.hid hf
      clear ho hs hf
      have hz1 := HZ.out
      have hz2 := HF2.out.size
      have hz3 := HF.out.size
      have HFB := Lib.hid (HF2.out.trans HF.out (by simp))
      obtain ⟨b0, b1, _⟩ := cells2 (HFB.out.keep HX.out (by simp))
      by_cases h : j < cl.length
      · obtain ⟨x, hx⟩ : ∃ x, cl[j]? = some x := ⟨_, List.getElem?_eq_getElem h⟩
        obtain ⟨g, off, d1, e1, hg, l1, k1⟩ := OdIn.here (LIn.keep0 HC.out HF.out) (by omega)
        cases e1
        obtain ⟨p0, p1, p2⟩ := k1 j x hx
        have HSN := Lib.hid (map_take_snoc (Od.ev (rows.length + 1)) hx)
        have t2 : decide (j < cl.length) = true := by simpa using h
        have n1 : ¬ w.heap.size = wr.heap.size := by omega
        have n2 : ¬ wr.heap.size = w.heap.size := by omega
        have n3 : ¬ g = wr.heap.size := by omega
        have n4 : ¬ wr.heap.size = g := by omega
        have n5 : g < wr.heap.size := hg
        have hw : IntKind.i64.wrap ((rows.length : Int) + 1) = (rows.length : Int) + 1 := IntWalk.i64_in _ ⟨by omega, by omega⟩
        rcases x with ⟨xk, xv, xd, xw⟩
        dsimp only at p0 p1 p2
        clear hx k1
        cases xd
        · go_wp2_with fail
          go_region_held3 (fun w' => w'.cell? ⟨w.heap.size, 0, none⟩ = some (.slice s1 rows.length c1) ∧ w'.cell? ⟨g, off + j * 3, none⟩ = some (.string xk) ∧ w'.cell? ⟨g, off + j * 3 + 2, none⟩ = some (.bool false)) (go_keep) (fail)
          go_wp2_with (at_builtin; refine go_stop ?_)
          unfold Stop
          have hrow : Lies (((wr.alloc (.cells #[.int .i64 (rows.length + 1), .string xk, .string xv, .bool false] 70)).alloc (.cells #[.int .i64 (rows.length + 1), .string xk, .string xv, .bool false] 70)).drew) 70 4 (.slice (some ⟨wr.heap.size + 1, 0, none⟩) 1 1) 1 (Ev.cells (Od.ev (rows.length + 1) ⟨xk, xv, false, xw⟩)) := Lies.keep (lies_row (wr.alloc (.cells #[.int .i64 (rows.length + 1), .string xk, .string xv, .bool false] 70)) 70 (Ev.cells (Od.ev (rows.length + 1) ⟨xk, xv, false, xw⟩)) rfl (wr.heap.size + 1) (by simp)) ((Fr.refl [] _).drew) (by simp)
          have ha := HOO.out.keep ((((Fr.refl [] wr).alloc (.cells #[.int .i64 (rows.length + 1), .string xk, .string xv, .bool false] 70)).alloc (.cells #[.int .i64 (rows.length + 1), .string xk, .string xv, .bool false] 70)).drew)
          have hb := ((HF.out.alloc (.cells #[.int .i64 (rows.length + 1), .string xk, .string xv, .bool false] 70)).alloc (.cells #[.int .i64 (rows.length + 1), .string xk, .string xv, .bool false] 70)).drew
          refine wpList_append_any rfl (.tmp 52) (.tmp 54) 50 70 (.agg #[.int .i64 0, .string ⟨#[]⟩, .string ⟨#[]⟩, .bool false]) 4 48 rfl ev_slice ev_info rfl (by decide) _ o.length (allC Ev.cells o) rfl ha.lies _ 1 (Ev.cells (Od.ev (rows.length + 1) ⟨xk, xv, false, xw⟩)) rfl hrow (Ev.cone _) (by unfold maxLen; omega) (by omega) ?_
          intro v' w' h1 h2 h3
          have HA := Lib.hid (OutAt.app ha hb.size (xs := [(Od.ev (rows.length + 1) ⟨xk, xv, false, xw⟩)]) (by rw [allC_one]; exact h1) rfl h3)
          have HG := Lib.hid (OutAt.fr ha hb h2)
          clear h1 h2 h3 ha hb hrow
          go_wp2_with fail
          go_roundw
          case rel =>
            refine ⟨j + 1, o ++ [(Od.ev (rows.length + 1) ⟨xk, xv, false, xw⟩)], by go_num, by omega, HA.out, ?_, HG.out⟩
            rw [HSN.out, HSS.out]
          case measure => simp [intOf]; omega
        · go_wp2_with fail
          go_region_held3 (fun w' => w'.cell? ⟨w.heap.size, 0, none⟩ = some (.slice s1 rows.length c1) ∧ w'.cell? ⟨g, off + j * 3, none⟩ = some (.string xk) ∧ w'.cell? ⟨g, off + j * 3 + 2, none⟩ = some (.bool true)) (go_keep) (fail)
          go_wp2_with (at_builtin; refine go_stop ?_)
          unfold Stop
          have hrow : Lies (((wr.alloc (.cells #[.int .i64 (rows.length + 1), .string xk, .string ⟨#[]⟩, .bool true] 70)).alloc (.cells #[.int .i64 (rows.length + 1), .string xk, .string ⟨#[]⟩, .bool true] 70)).drew) 70 4 (.slice (some ⟨wr.heap.size + 1, 0, none⟩) 1 1) 1 (Ev.cells (Od.ev (rows.length + 1) ⟨xk, xv, true, xw⟩)) := Lies.keep (lies_row (wr.alloc (.cells #[.int .i64 (rows.length + 1), .string xk, .string ⟨#[]⟩, .bool true] 70)) 70 (Ev.cells (Od.ev (rows.length + 1) ⟨xk, xv, true, xw⟩)) rfl (wr.heap.size + 1) (by simp)) ((Fr.refl [] _).drew) (by simp)
          have ha := HOO.out.keep ((((Fr.refl [] wr).alloc (.cells #[.int .i64 (rows.length + 1), .string xk, .string ⟨#[]⟩, .bool true] 70)).alloc (.cells #[.int .i64 (rows.length + 1), .string xk, .string ⟨#[]⟩, .bool true] 70)).drew)
          have hb := ((HF.out.alloc (.cells #[.int .i64 (rows.length + 1), .string xk, .string ⟨#[]⟩, .bool true] 70)).alloc (.cells #[.int .i64 (rows.length + 1), .string xk, .string ⟨#[]⟩, .bool true] 70)).drew
          refine wpList_append_any rfl (.tmp 52) (.tmp 54) 50 70 (.agg #[.int .i64 0, .string ⟨#[]⟩, .string ⟨#[]⟩, .bool false]) 4 48 rfl ev_slice ev_info rfl (by decide) _ o.length (allC Ev.cells o) rfl ha.lies _ 1 (Ev.cells (Od.ev (rows.length + 1) ⟨xk, xv, true, xw⟩)) rfl hrow (Ev.cone _) (by unfold maxLen; omega) (by omega) ?_
          intro v' w' h1 h2 h3
          have HA := Lib.hid (OutAt.app ha hb.size (xs := [(Od.ev (rows.length + 1) ⟨xk, xv, true, xw⟩)]) (by rw [allC_one]; exact h1) rfl h3)
          have HG := Lib.hid (OutAt.fr ha hb h2)
          clear h1 h2 h3 ha hb hrow
          go_wp2_with fail
          go_roundw
          case rel =>
            refine ⟨j + 1, o ++ [(Od.ev (rows.length + 1) ⟨xk, xv, true, xw⟩)], by go_num, by omega, HA.out, ?_, HG.out⟩
            rw [HSN.out, HSS.out]
          case measure => simp [intOf]; omega
      · have t2 : decide (j < cl.length) = false := by simpa using h
        have he : o = rowOf rows ops := by rw [HCL.out, HSS.out, List.take_of_length_le (by omega)]
        have HE := Lib.hid he
        obtain ⟨vs, hv1, hv2, hv3⟩ := HR.out
        have HV1 := Lib.hid hv1
        have HV2 := Lib.hid hv2
        have HV3 := Lib.hid hv3
        have HOF := Lib.hid (HOO.out.far Ev.clen (fun k hk => by have := HS.out k hk; omega))
        obtain ⟨so, co, rfl, lo, mo⟩ := HOF.out.form
        have HY2 := Lib.hid (HFB.out.keep HY.out (by simp))
        have HX2 := Lib.hid (HFB.out.keep HX.out (by simp))
        have n1 : ¬ w.heap.size = wr.heap.size := by omega
        have n2 : ¬ wr.heap.size = w.heap.size := by omega
        have n3 : w.heap.size < wr.heap.size := by omega
        have HFW := Lib.hid (HF0.out.trans HFB.out (by simp))
        have HLT : Hid (w.heap.size + 1 < wr.heap.size) := Lib.hid (by omega)
        clear hv1 hv2 hv3 he
        go_wp2_with (at_builtin; refine go_stop ?_)
        unfold Stop
        have hf1 : Fr [] wr (wr.alloc (.cells #[] 50)) := (Fr.refl [] wr).alloc _
        refine wpList_append_src rfl (.tmp 56) (.tmp 58) 34 50 (.slice none 0 0) 1 24 rfl rows_slice rows_info rfl (by decide) (.slice (some ⟨wr.heap.size, 0, none⟩) 0 0) 0 [] rfl (lies_empty _ _ _ _ rfl) _ rows.length vs rfl (RowsF.src HV1.out (HV2.out.keep0 (HFW.out.trans hf1 (by simp)))) (by intro y hy; obtain ⟨i, hi⟩ := List.mem_iff_getElem?.1 hy; obtain ⟨r, hr⟩ : ∃ r, rows[i]? = some r := ⟨_, List.getElem?_eq_getElem (by rw [← HV1.out]; exact (List.getElem?_eq_some_iff.1 hi).1)⟩; obtain ⟨_, _, hyy, _⟩ := (HV3.out i y r hi hr).form; rw [hyy]; rfl) (by unfold maxLen; omega) (by omega) ?_
        intro va wa k1 k2 k3
        simp only [Nat.zero_add, List.nil_append] at k1
        have hfa : Fr [] wr wa := hf1.trans k2 (by intro k hk; simp [Value.ownBlock] at hk; exact Or.inr (by omega))
        have HA := Lib.hid k1
        have HFA := Lib.hid hfa
        have HNA : Hid (∀ k, va.ownBlock = some k → wr.heap.size ≤ k) := Lib.hid (by
          intro k hk
          rcases k3 k hk with h4 | h4
          · simp [Value.ownBlock] at h4; omega
          · rw [h4]; exact hf1.size)
        obtain ⟨sa, ca, rfl, la4, ma4⟩ := k1.form
        obtain ⟨b0, b1, _⟩ := cells2 (hfa.keep HX2.out (by simp))
        clear k1 k2 k3 hf1 hfa n1 n2 n3
        go_wp2_with (at_builtin; refine go_stop ?_)
        unfold Stop
        have hga : Fr [] wa (wa.alloc (.cells #[.slice so o.length co] 50)) := (Fr.refl [] wa).alloc _
        refine wpList_append_any rfl (.tmp 60) (.tmp 62) 34 50 (.slice none 0 0) 1 24 rfl rows_slice rows_info rfl (by decide) (.slice sa rows.length ca) rows.length vs rfl (HA.out.keep hga (by simp)) _ 1 [.slice so o.length co] rfl (lies_row wa 50 [.slice so o.length co] rfl _ rfl) (by intro y hy; simp at hy; subst hy; rfl) (by unfold maxLen; omega) (by omega) ?_
        intro vb wz k1 k2 k3
        have hsa := HFA.out.size
        have hfz : Fr [] wr wz := (HFA.out.trans hga (by simp)).trans k2 (fun k hk => Or.inr (HNA.out k (by simpa using hk)))
        have hnz : ∀ k, vb.ownBlock = some k → wr.heap.size ≤ k := by
          intro k hk
          rcases k3 k hk with h4 | h4
          · exact HNA.out k h4
          · rw [h4]; exact Nat.le_trans hsa hga.size
        obtain ⟨sb, cb, rfl, _, _⟩ := k1.form
        have HB := Lib.hid k1
        have HFZ := Lib.hid hfz
        have HNZ := Lib.hid hnz
        obtain ⟨b0, b1, _⟩ := cells2 (hfz.keep HX2.out (by simp))
        obtain ⟨y0, y1, yf⟩ := cells2 (hfz.keep HY2.out (by simp))
        have yf0 := yf 0
        have yf1 := yf 1
        have hlt := HLT.out
        clear k1 k2 k3 hfz hnz hga yf
        go_wp2_with fail
        refine bodyPost_ret (v := .tuple #[.agg #[.slice sb (rows.length + 1) cb, .int .i64 hor], .slice so o.length co]) (by simp [results, Try.results29, go_sem, *]) rfl ?_
        have hw3 : ∀ W, Fr [] wz W → Fr [] wr W := fun W h => HFZ.out.trans h (by simp)
        have hset : Fr [w.heap.size + 1] wz ((wz.setCell ⟨w.heap.size + 1, 0, none⟩ (.slice sb (rows.length + 1) cb)).setCell ⟨w.heap.size + 1, 1, none⟩ (.int .i64 hor)) := (((Fr.refl _ wz).setCell (p := ⟨w.heap.size + 1, 0, none⟩) (Or.inl (by simp)) _).setCell (p := ⟨w.heap.size + 1, 1, none⟩) (Or.inl (by simp)) _)
        have hend : Fr [] w ((wz.setCell ⟨w.heap.size + 1, 0, none⟩ (.slice sb (rows.length + 1) cb)).setCell ⟨w.heap.size + 1, 1, none⟩ (.int .i64 hor)) := (HFW.out.trans HFZ.out (by simp)).trans hset (fun k hk => Or.inr (by simp at hk; omega))
        have hone : rowOf rows ops ≠ [] := by
          intro h0
          have h1 : o.length = cl.length := by rw [HSS.out, List.length_map, List.length_take]; omega
          rw [HE.out, h0] at h1
          exact hn h1.symm
        have hrow : LFar S Ev.cells 4 ((wz.setCell ⟨w.heap.size + 1, 0, none⟩ (.slice sb (rows.length + 1) cb)).setCell ⟨w.heap.size + 1, 1, none⟩ (.int .i64 hor)) (.slice so o.length co) o := by
          have h5 := LAt.keep (LAt.keep0 HOO.out.lies HFZ.out) hset (fun k hk => by have := HOO.out.new k hk; have := HF2.out.size; have := HZ.out; simp; omega)
          exact LFar.of_new (w := w) (LAt.read h5 Ev.clen) (fun k hk => by have := HOO.out.new k hk; have := HF2.out.size; have := HZ.out; omega) HS.out
        refine ⟨_, _, rfl, ?_, by rw [← HE.out]; exact hrow, hend⟩
        unfold putR
        rw [if_neg hone, ← HE.out]
        have hlies : LAt uC 50 1 ((wz.setCell ⟨w.heap.size + 1, 0, none⟩ (.slice sb (rows.length + 1) cb)).setCell ⟨w.heap.size + 1, 1, none⟩ (.int .i64 hor)) (.slice sb (rows.length + 1) cb) (vs ++ [.slice so o.length co]) := by
          unfold LAt
          rw [allU, List.length_append, HV1.out]
          exact HB.out.keep hset (fun k hk => by have := HNZ.out k hk; simp; omega)
        refine ⟨vs ++ [.slice so o.length co], by rw [List.length_append, List.length_append, HV1.out]; rfl, LFar.of_new (w := wr) (LAt.read hlies uC.len) HNZ.out (fun k hk => by have := HS.out k hk; omega), ?_⟩
        intro i u r hu hr
        by_cases hi : i < rows.length
        · rw [List.getElem?_append_left (by rw [HV1.out]; exact hi)] at hu
          rw [List.getElem?_append_left hi] at hr
          exact (HV3.out i u r hu hr).keep0 hend
        · rw [List.getElem?_append_right (by rw [HV1.out]; omega)] at hu
          rw [List.getElem?_append_right (by omega)] at hr
          obtain ⟨h6, h7⟩ := List.getElem?_eq_some_iff.1 hu
          obtain ⟨h8, h9⟩ := List.getElem?_eq_some_iff.1 hr
          simp at h6 h8
          have z1 : i - vs.length = 0 := by omega
          have z2 : i - rows.length = 0 := by omega
          simp [z1] at h7
          simp [z2] at h9
          subst h7 h9
          exact hrow
end Go.Proofs.Ytpahencocbahgaa
