/- THE DOCUMENT's ANSWERS FOR epoch: contracts of Retire, Advance, Same -/
import Derived.Test.YtphniphlflijeaaEpochRefIn
namespace Go.Proofs.Ytphniphlflijeaa
open Go.RowKit
set_option linter.unusedVariables false
set_option linter.unusedSimpArgs false

theorem thing_slice : Try.prog.underlying 27 = some (.slice 64) := Try.underlying27
theorem thing_info : (Try.prog.info? 64).map (fun i => (i.zero, i.size, i.bytes)) = some (some (.agg #[.int .u64 0, .int .i64 0]), 2, 16) := by kernel_rfl
theorem ru64_slice : Try.prog.underlying 39 = some (.slice 33) := Try.underlying39
theorem ru64_info : (Try.prog.info? 33).map (fun i => (i.zero, i.size, i.bytes)) = some (some (.int .u64 0), 1, 8) := by kernel_rfl
theorem lies_thing (w : World) (x : Int × Int) (B : Nat) (hB : w.heap.size = B) : Lies (w.alloc (.cells #[.int .u64 x.1, .int .i64 x.2] 64)) 64 2 (.slice (some ⟨B, 0, none⟩) 1 1) 1 (things [x]) := by
  subst hB
  refine ⟨rfl, Or.inr ⟨_, 0, 1, _, rfl, new_block _ _, Nat.le_refl _, by unfold maxLen; omega, by simp, fun j hj => ?_⟩⟩
  have : j = 0 ∨ j = 1 := by omega
  rcases this with rfl | rfl <;> simp [things]

def XA.retire (X : XA) (x : Int) : XA := { X with row := X.row ++ [(x, X.ep)] }
set_option maxHeartbeats 2000000 in
theorem rretire_any (w : World) (x : Int) {V : Value} {X : XA} (h : RefS w V X) (hl : X.row.length ≤ 100000) :
    Calls Try.prog 24 #[V, .int .u64 x] w (Ref1 w (X.retire x)) := by
  obtain ⟨iv, rv, rfl, h⟩ := h
  have HS0 := Lib.hid h
  obtain ⟨⟨ia, ic, rfl⟩, ⟨ra, rc, rfl⟩⟩ := h.forms
  unfold refAgg
  clear h
  go_enter Try.func24, Try.ntmps24
  go_wp2_with (at_builtin; refine wpList_append_any rfl (.tmp 8) (.tmp 10) 27 64 (.agg #[.int .u64 0, .int .i64 0]) 2 16 rfl thing_slice thing_info rfl (by decide) (.slice (some ⟨w.heap.size + 1 + 1 + 1, 0, none⟩) 0 0) 0 [] rfl (lies_empty _ _ _ _ (by simp)) (.slice ra X.row.length rc) X.row.length (things X.row) rfl ?src (things_one _) (by unfold maxLen; omega) (by omega) ?app)
  case src => exact HS0.out.row.keep ((((((Fr.refl [] w).alloc _).alloc _).alloc _).alloc _)) (by simp)
  case app =>
  intro v3 w3 ho3 hf3 hn3
  have ho : Lies w3 64 2 v3 X.row.length (things X.row) := by simpa using ho3
  obtain ⟨s3, c3, rfl, _⟩ := ho.form
  have hn : ∀ k, (Value.slice s3 X.row.length c3).ownBlock = some k → w.heap.size + 1 + 1 < k := by
    intro k hk
    have hk' : (Value.slice s3 (0 + X.row.length) c3).ownBlock = some k := by simpa [Value.ownBlock] using hk
    rcases hn3 k (by simpa using hk) with h | h
    · first | omega | (simp [Value.ownBlock] at h; omega)
    · first | omega | (simp at h; omega)
  obtain ⟨hA, hB, hC⟩ := boxes4 hf3 (by simp [Value.ownBlock] <;> omega) (by simp [Value.ownBlock] <;> omega) (by simp [Value.ownBlock] <;> omega)
  have hF3 : Fr [] w w3 := (((((Fr.refl [] w).alloc _).alloc _).alloc _).alloc _).trans hf3 (by intro k hk; simp [Value.ownBlock] at hk; exact Or.inr (by omega))
  have HO := Lib.hid ho
  have HF := Lib.hid hF3
  have HN := Lib.hid hn
  have HA := Lib.hid hA
  have HB := Lib.hid hB
  have HC := Lib.hid hC
  have lC := lt_of_block hC
  obtain ⟨a0, a1, a2, _⟩ := cells3 hA
  have lA : w.heap.size < w3.heap.size := by omega
  clear ho ho3 hf3 hn3 hA hB hC hF3 hn
  go_wp2_with (at_builtin; refine wpList_append_any rfl (.tmp 12) (.tmp 17) 27 64 (.agg #[.int .u64 0, .int .i64 0]) 2 16 rfl thing_slice thing_info rfl (by decide) (.slice s3 X.row.length c3) X.row.length (things X.row) rfl ?src (.slice (some ⟨w3.heap.size, 0, none⟩) 1 1) 1 (things [(x, X.ep)]) rfl (lies_thing _ (x, X.ep) _ rfl) (things_one _) (by unfold maxLen; omega) (by omega) ?app)
  case src => exact HO.out.alloc _
  case app =>
  intro v4 w4 ho4 hf4 hn4
  obtain ⟨s4, c4, rfl, _⟩ := ho4.form
  have hn : ∀ k, (Value.slice s4 (X.row.length + 1) c4).ownBlock = some k → w.heap.size + 1 + 1 < k := by
    intro k hk
    rcases hn4 k hk with h | h
    · exact HN.out k h
    · first | omega | (simp at h; omega)
  have hni : ∀ k, k ≤ w.heap.size + 1 + 1 → k ∉ (Value.slice s3 X.row.length c3).ownBlock.toList := by intro k hk hm; have := HN.out k (by simpa using hm); omega
  have hA4 := hf4.keep (blk_alloc HA.out _) (hni _ (by omega))
  have hB4 := hf4.keep (blk_alloc HB.out _) (hni _ (by omega))
  have hC4 := hf4.keep (blk_alloc HC.out _) (hni _ (by omega))
  have hF4 : Fr [] w w4 := (HF.out.alloc _).trans hf4 (by intro k hk; have := HN.out k (by simpa using hk); right; omega)
  obtain ⟨b0, b1, b2, bf⟩ := cells3 hB4
  obtain ⟨e0, e1, e2, ef⟩ := cells3 hC4
  have bf0 := bf 0
  have bf1 := bf 1
  have bf2 := bf 2
  have ef2 := ef 2
  have n7 : ¬ w.heap.size = w.heap.size + 1 + 1 := by omega
  have n8 : ¬ w.heap.size + 1 + 1 = w.heap.size + 1 := by omega
  have HO4 := Lib.hid ho4
  have HF4 := Lib.hid hF4
  have HN4 := Lib.hid hn
  clear ho4 hf4 hn4 hA4 hB4 hC4 hF4 hn hni bf ef
  go_wp2
  refine bodyPost_ret (v := refAgg (.slice ia X.inn.length ic) (.slice s4 (X.row.length + 1) c4) X.ep) (by simp [refAgg, results, Try.results24, go_sem, *]) rfl ⟨_, rfl, ?_⟩
  have hE : Fr [] w (w4.setCell ⟨w.heap.size + 1 + 1, 2, none⟩ (.slice s4 (X.row.length + 1) c4)) := HF4.out.setNew (by omega) _
  refine ⟨⟨_, _, rfl, ?_, ?_⟩, hE.set3 (by omega) _ _ _⟩
  · exact HS0.out.ins.keep (hE.set3 (by omega) _ _ _) (by simp)
  · have hx : ∀ u u0 u1 u2, Fr [w.heap.size + 1 + 1, w.heap.size + 1] w4 ((((w4.setCell ⟨w.heap.size + 1 + 1, 2, none⟩ u).setCell ⟨w.heap.size + 1, 0, none⟩ u0).setCell ⟨w.heap.size + 1, 1, none⟩ u1).setCell ⟨w.heap.size + 1, 2, none⟩ u2) := fun u u0 u1 u2 =>
      ((((Fr.refl _ w4).setCell (Or.inl (by simp)) u).setCell (Or.inl (by simp)) u0).setCell (Or.inl (by simp)) u1).setCell (Or.inl (by simp)) u2
    have := HO4.out.keep (hx (.slice s4 (X.row.length + 1) c4) (.slice ia X.inn.length ic) (.int .i64 X.ep) (.slice s4 (X.row.length + 1) c4)) (by intro k hk; have := HN4.out k hk; simp; omega)
    rw [← things_app] at this
    simpa [XA.retire] using this

/-! Advance -/
def XA.ready (X : XA) : Bool := X.inn.all (fun y => decide (y < 0) || decide (y = X.ep))
def XA.advance (X : XA) : XA := if X.ready then { X with ep := X.ep + 1 } else X
theorem rready_no {X : XA} {j : Nat} {y : Int} (h : X.inn[j]? = some y) (h0 : 0 ≤ y) (hs : y ≠ X.ep) : X.ready = false := by
  unfold XA.ready
  rw [List.all_eq_false]
  exact ⟨y, List.mem_of_getElem? h, by simp [hs, h0]⟩
theorem rready_yes {X : XA} (h : ∀ i, i < X.inn.length → (decide (X.inn.getD i 0 < 0) || decide (X.inn.getD i 0 = X.ep)) = true) : X.ready = true := by
  unfold XA.ready
  rw [List.all_eq_true]
  intro x hx
  obtain ⟨i, hi, rfl⟩ := List.mem_iff_getElem.1 hx
  have := h i hi
  rwa [List.getD_eq_getElem?_getD, List.getElem?_eq_getElem hi] at this
set_option maxHeartbeats 2000000 in
theorem radvance_any (w : World) {V : Value} {X : XA} (h : RefS w V X) (hl : X.inn.length ≤ 8) (he0 : 0 ≤ X.ep) (he1 : X.ep ≤ 100000) :
    Calls Try.prog 25 #[V] w (Ref2 w X.advance (.bool X.ready)) := by
  have HX := Lib.hid h
  obtain ⟨iv, rv, rfl, h⟩ := h
  have HS0 := Lib.hid h
  obtain ⟨⟨ia, ic, rfl⟩, ⟨ra, rc, rfl⟩⟩ := h.forms
  unfold refAgg at HX ⊢
  clear h
  go_enter Try.func25, Try.ntmps25
  go_wp2_with fail
  go_loopw [4] (fun i wr => ∃ j : Nat, i = .int .i64 j ∧ j ≤ X.inn.length ∧ (∀ i, i < j → (decide (X.inn.getD i 0 < 0) || decide (X.inn.getD i 0 = X.ep)) = true) ∧
     wr.heap[w.heap.size]? = some (.cells #[.slice ia X.inn.length ic, .int .i64 X.ep, .slice ra X.row.length rc] 29 (0, 0)) ∧ wr.heap[w.heap.size + 1]? = some (.cells #[.slice none 0 0, .int .i64 0, .slice none 0 0] 29 (0, 0)) ∧ Fr [] w wr) (fun i _ => X.inn.length - (intOf i).toNat)
  case atStart =>
    refine ⟨0, rfl, Nat.zero_le _, fun i hi => by omega, blk_new2 _ _ _, ?_, ((Fr.refl _ _).alloc _).alloc _⟩
    have := new_block (w.alloc (.cells #[.slice ia X.inn.length ic, .int .i64 X.ep, .slice ra X.row.length rc] 29)) (.cells #[.slice none 0 0, .int .i64 0, .slice none 0 0] 29)
    simpa using this
  case round =>
    obtain ⟨j, rfl, hj, hok, hA, hB, hf⟩ := hrel
    obtain ⟨a0, a1, a2, af⟩ := cells3 hA
    obtain ⟨b0, b1, b2, bf⟩ := cells3 hB
    have bf0 := bf 0
    have bf1 := bf 1
    have bf2 := bf 2
    have lB := lt_of_block hB
    have lA : w.heap.size < wr.heap.size := by omega
    have HK := Lib.hid hok
    have HA := Lib.hid hA
    have HB := Lib.hid hB
    have HF := Lib.hid hf
    by_cases hlt : j < X.inn.length
    · have t1 : decide ((j : Int) < X.inn.length) = true := by simpa using hlt
      obtain ⟨y, hy⟩ : ∃ y, X.inn[j]? = some y := ⟨_, List.getElem?_eq_getElem hlt⟩
      obtain ⟨g, off, c, hv, hg, hc, hcells⟩ := (HS0.out.ins.keep hf (by simp)).here (by omega)
      cases hv
      obtain ⟨d0, _⟩ := hcells j (by omega)
      rw [List.getElem?_map, hy] at d0
      replace d0 : wr.cell? ⟨g, off + j, none⟩ = some (.int .i64 y) := d0
      have HY := Lib.hid hy
      have HD := Lib.hid (show X.inn.getD j 0 = y from by rw [List.getD_eq_getElem?_getD, hy]; rfl)
      clear hok hA hB hf hcells hy af bf
      by_cases h0 : 0 ≤ y
      · have t2 : decide (0 ≤ y) = true := by simpa using h0
        by_cases hs : y = X.ep
        · subst hs
          go_wp2_with fail
          go_quiet (fail)
          go_wp2
          go_roundw
          case rel =>
            refine ⟨j + 1, by go_num, by omega, fun i hi => ?_, by first | exact HA.out | exact HA.out, by exact HB.out, by first | exact HF.out | exact HF.out.drew | exact HF.out.drewN _⟩
            by_cases hij : i = j
            · subst hij; rw [HD.out]; simp
            · exact HK.out i (by omega)
          case measure => simp [intOf]; omega
        · have t3 : (y == X.ep) = false := by simpa using hs
          have HR := Lib.hid (rready_no HY.out h0 hs)
          have HH := Lib.hid h0
          go_wp2_with fail
          go_quiet (fail)
          go_wp2
          refine bodyPost_ret (v := .tuple #[.agg #[.slice (some ⟨g, off, none⟩) X.inn.length ic, .int .i64 X.ep, .slice ra X.row.length rc], .bool false]) (by simp [results, Try.results25, go_sem, *]) rfl ⟨_, (by rw [HR.out]), ?_⟩
          rw [XA.advance, HR.out]
          have hE : ∀ W u0 u1 u2, Fr [] wr W → Fr [] w (((W.setCell ⟨w.heap.size + 1, 0, none⟩ u0).setCell ⟨w.heap.size + 1, 1, none⟩ u1).setCell ⟨w.heap.size + 1, 2, none⟩ u2) := fun W u0 u1 u2 hW => (HF.out.trans hW (by simp)).set3 (by omega) u0 u1 u2
          first
            | exact ⟨HX.out.keep (hE _ _ _ _ (Fr.refl _ _)) (by simp), hE _ _ _ _ (Fr.refl _ _)⟩
            | exact ⟨HX.out.keep (hE _ _ _ _ ((Fr.refl _ _).drew)) (by simp), hE _ _ _ _ ((Fr.refl _ _).drew)⟩
            | exact ⟨HX.out.keep (hE _ _ _ _ ((Fr.refl _ _).drewN _)) (by simp), hE _ _ _ _ ((Fr.refl _ _).drewN _)⟩
            | exact ⟨HX.out.keep (hE _ _ _ _ (Fr.refl _ _)).drew (by simp), (hE _ _ _ _ (Fr.refl _ _)).drew⟩
            | exact ⟨HX.out.keep ((hE _ _ _ _ (Fr.refl _ _)).drewN _) (by simp), (hE _ _ _ _ (Fr.refl _ _)).drewN _⟩
      · have t2 : decide (0 ≤ y) = false := by simpa using h0
        have HH := Lib.hid (show y < 0 from by omega)
        go_wp2_with fail
        go_quiet (fail)
        go_wp2
        go_roundw
        case rel =>
          refine ⟨j + 1, by go_num, by omega, fun i hi => ?_, by first | exact HA.out | exact HA.out, by exact HB.out, by first | exact HF.out | exact HF.out.drew | exact HF.out.drewN _⟩
          by_cases hij : i = j
          · subst hij; rw [HD.out]; simp [HH.out]
          · exact HK.out i (by omega)
        case measure => simp [intOf]; omega
    · obtain rfl : j = X.inn.length := by omega
      have t1 : decide ((X.inn.length : Int) < X.inn.length) = false := by simp
      have HR := Lib.hid (rready_yes hok)
      have hwrap : IntKind.i64.wrap (X.ep + 1) = X.ep + 1 := IntWalk.i64_in _ ⟨by omega, by omega⟩
      have n1 : ¬ w.heap.size + 1 = wr.heap.size := by omega
      have n2 : ¬ w.heap.size = wr.heap.size := by omega
      have n3 : ¬ wr.heap.size = w.heap.size + 1 := by omega
      clear hok hA hB hf af bf
      go_wp2
      refine bodyPost_ret (v := .tuple #[refAgg (.slice ia X.inn.length ic) (.slice ra X.row.length rc) (X.ep + 1), .bool true]) (by simp [refAgg, results, Try.results25, go_sem, *]) rfl ⟨_, (by rw [HR.out]), ?_⟩
      rw [XA.advance, HR.out, if_pos rfl]
      have hE : ∀ W u0 u1 u2, Fr [] wr W → Fr [] w (((W.setCell ⟨w.heap.size + 1, 0, none⟩ u0).setCell ⟨w.heap.size + 1, 1, none⟩ u1).setCell ⟨w.heap.size + 1, 2, none⟩ u2) := fun W u0 u1 u2 hW => (HF.out.trans hW (by simp)).set3 (by omega) u0 u1 u2
      have hE2 : ∀ o u0 u1 u2, Fr [] w ((((wr.setCell ⟨w.heap.size + 1, 0, none⟩ u0).setCell ⟨w.heap.size + 1, 1, none⟩ u1).setCell ⟨w.heap.size + 1, 2, none⟩ u2).alloc o) := fun o u0 u1 u2 => (hE _ u0 u1 u2 (Fr.refl _ _)).alloc o
      first
        | exact ⟨⟨_, _, rfl, HS0.out.ins.keep (hE2 _ _ _ _) (by simp), HS0.out.row.keep (hE2 _ _ _ _) (by simp)⟩, hE2 _ _ _ _⟩
        | exact ⟨⟨_, _, rfl, HS0.out.ins.keep (hE _ _ _ _ ((Fr.refl _ _).alloc _)) (by simp), HS0.out.row.keep (hE _ _ _ _ ((Fr.refl _ _).alloc _)) (by simp)⟩, hE _ _ _ _ ((Fr.refl _ _).alloc _)⟩

/-! Same -/
set_option maxHeartbeats 1000000 in
theorem rsame_any (w : World) {a b : Value} {xs ys : List Int} (ha : Lies w 33 1 a xs.length (xs.map (Value.int .u64))) (hb : Lies w 33 1 b ys.length (ys.map (Value.int .u64))) :
    Calls Try.prog 21 #[a, b] w fun e w' => e = .returned (.bool (decide (xs = ys))) ∧ Fr [] w w' := by
  have HA := Lib.hid ha
  have HB := Lib.hid hb
  obtain ⟨sa, ac, rfl, hac0, hac⟩ := ha.form
  obtain ⟨sb, bc, rfl, hbc0, hbc⟩ := hb.form
  clear ha hb
  by_cases hlen : xs.length = ys.length
  · have t0 : ((xs.length : Int) == (ys.length : Int)) = true := by simp; omega
    have HLEN := Lib.hid hlen
    have hm : xs.length ≤ maxLen := by omega
    unfold maxLen at hm
    clear hlen hac hbc hac0 hbc0
    go_enter Try.func21, Try.ntmps21
    go_wp2_with fail
    go_loopw [5] (fun i wr => ∃ j : Nat, i = .int .i64 j ∧ j ≤ xs.length ∧ (∀ i, i < j → xs[i]? = ys[i]?) ∧ Fr [] w wr) (fun i _ => xs.length - (intOf i).toNat)
    case atStart => exact ⟨0, rfl, Nat.zero_le _, fun i hi => by omega, Fr.refl _ _⟩
    case round =>
      obtain ⟨j, rfl, hj, hok, hf⟩ := hrel
      have HK := Lib.hid hok
      have HF := Lib.hid hf
      by_cases hlt : j < xs.length
      · have t1 : decide ((j : Int) < xs.length) = true := by simpa using hlt
        have hlty : j < ys.length := by have := HLEN.out; omega
        have t4 : decide ((j : Int) < ys.length) = true := by simpa using hlty
        obtain ⟨x, hx⟩ : ∃ x, xs[j]? = some x := ⟨_, List.getElem?_eq_getElem hlt⟩
        obtain ⟨y, hy⟩ : ∃ y, ys[j]? = some y := ⟨_, List.getElem?_eq_getElem hlty⟩
        obtain ⟨g, off, c, hv, hg, hc, hcells⟩ := (HA.out.keep hf (by simp)).here (by omega)
        cases hv
        obtain ⟨g2, off2, c2, hv2, hg2, hc2, hcells2⟩ := (HB.out.keep hf (by simp)).here (by omega)
        cases hv2
        obtain ⟨d0, _⟩ := hcells j (by omega)
        rw [List.getElem?_map, hx] at d0
        replace d0 : wr.cell? ⟨g, off + j, none⟩ = some (.int .u64 x) := d0
        obtain ⟨d1, _⟩ := hcells2 j (by omega)
        rw [List.getElem?_map, hy] at d1
        replace d1 : wr.cell? ⟨g2, off2 + j, none⟩ = some (.int .u64 y) := d1
        have HX := Lib.hid hx
        have HY := Lib.hid hy
        clear hok hf hcells hcells2 hx hy
        by_cases hxy : x = y
        · subst hxy
          go_wp2_with fail
          go_quiet (fail)
          go_wp2
          go_roundw
          case rel =>
            refine ⟨j + 1, by go_num, by omega, fun i hi => ?_, by first | exact HF.out | exact HF.out.drew | exact HF.out.drewN _⟩
            by_cases hij : i = j
            · subst hij; rw [HX.out, HY.out]
            · exact HK.out i (by omega)
          case measure => simp [intOf]; omega
        · have t3 : (x == y) = false := by simpa using hxy
          have HNE := Lib.hid hxy
          go_wp2_with fail
          go_quiet (fail)
          go_wp2
          go_ret
          have : decide (xs = ys) = false := by
            rw [decide_eq_false_iff_not]
            rintro rfl
            have h1 := HX.out
            rw [HY.out] at h1
            exact HNE.out (Option.some.inj h1).symm
          exact ⟨by rw [this]; rfl, by first | exact HF.out | exact HF.out.drew | exact HF.out.drewN _⟩
      · obtain rfl : j = xs.length := by omega
        have t1 : decide ((xs.length : Int) < xs.length) = false := by simp
        clear hok hf
        go_wp2
        go_ret
        have : decide (xs = ys) = true := by
          rw [decide_eq_true_iff]
          apply List.ext_getElem?
          intro i
          by_cases hi : i < xs.length
          · exact HK.out i hi
          · rw [List.getElem?_eq_none (by omega), List.getElem?_eq_none (by have := HLEN.out; omega)]
        exact ⟨by rw [this]; rfl, HF.out⟩
  · have t0 : ((xs.length : Int) == (ys.length : Int)) = false := by simp; omega
    have : decide (xs = ys) = false := by rw [decide_eq_false_iff_not]; rintro rfl; exact hlen rfl
    have HT := Lib.hid this
    clear this
    go_enter Try.func21, Try.ntmps21
    go_wp2
    go_ret
    exact ⟨by rw [HT.out]; rfl, Fr.refl _ _⟩
end Go.Proofs.Ytphniphlflijeaa
