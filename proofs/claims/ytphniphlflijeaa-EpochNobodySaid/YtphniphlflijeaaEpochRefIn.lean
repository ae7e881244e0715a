/- THE DOCUMENT's ANSWERS FOR epoch: contracts of Enter and Exit -/
import Derived.Test.YtphniphlflijeaaEpochRef
namespace Go.Proofs.Ytphniphlflijeaa
open Go.RowKit
set_option linter.unusedVariables false
set_option linter.unusedSimpArgs false

def XA.has (X : XA) (t : Int) : Bool := decide (0 ≤ t ∧ t < X.inn.length)
def XA.since (X : XA) (t : Int) : Int := X.inn.getD t.toNat (-1)
def XA.enter (X : XA) (t : Int) : XA := if X.has t then (if 0 ≤ X.since t then X else { X with inn := X.inn.set t.toNat X.ep }) else X
def XA.enterE (X : XA) (t : Int) : Int := if X.has t then (if 0 ≤ X.since t then 8 else 0) else 1
def XA.exit (X : XA) (t : Int) : XA := if X.has t then (if 0 ≤ X.since t then { X with inn := X.inn.set t.toNat (-1) } else X) else X
def XA.exitE (X : XA) (t : Int) : Int := if X.has t then (if 0 ≤ X.since t then 0 else 4) else 1

set_option maxHeartbeats 2000000 in
theorem renter_any (w : World) (t : Int) {V : Value} {X : XA} (h : RefS w V X) (hl : X.inn.length ≤ 8) :
    Calls Try.prog 22 #[V, .int .i64 t] w (Ref2 w (X.enter t) (.int .i64 (X.enterE t))) := by
  have HX := Lib.hid h
  obtain ⟨iv, rv, rfl, h⟩ := h
  have HS0 := Lib.hid h
  obtain ⟨⟨ia, ic, rfl⟩, ⟨ra, rc, rfl⟩⟩ := h.forms
  unfold refAgg at HX ⊢
  have HKeep : Hid (∀ W b u0 u1 u2, Fr [] w W → w.heap.size ≤ b → RefNext w (refAgg (.slice ia X.inn.length ic) (.slice ra X.row.length rc) X.ep) X (((W.setCell ⟨b, 0, none⟩ u0).setCell ⟨b, 1, none⟩ u1).setCell ⟨b, 2, none⟩ u2)) :=
    Lib.hid (fun W b u0 u1 u2 hW hb => ⟨HX.out.keep (hW.set3 hb u0 u1 u2) (by simp), hW.set3 hb u0 u1 u2⟩)
  by_cases h0 : 0 ≤ t
  · have t1 : decide (t < 0) = false := by simpa using h0
    by_cases h1 : t < X.inn.length
    · obtain ⟨q, rfl⟩ := Int.eq_ofNat_of_zero_le h0
      have hq : q < X.inn.length := by omega
      have t2 : decide ((X.inn.length : Int) ≤ q) = false := by simp; omega
      have HS := Lib.hid (show X.has q = true from by simp [XA.has]; omega)
      obtain ⟨y, hy⟩ : ∃ y, X.inn[q]? = some y := ⟨_, List.getElem?_eq_getElem hq⟩
      have HY := Lib.hid (show X.since q = y from by simp [XA.since, List.getD_eq_getElem?_getD, hy])
      obtain ⟨g, off, c, hv, hg, hc, hcells⟩ := h.ins.here (by omega)
      cases hv
      obtain ⟨d0, _⟩ := hcells q (by omega)
      rw [List.getElem?_map, hy] at d0
      replace d0 : w.cell? ⟨g, off + q, none⟩ = some (.int .i64 y) := d0
      have hgn : ¬ g = w.heap.size := by omega
      have hgn1 : ¬ g = w.heap.size + 1 := by omega
      clear h hcells hy
      by_cases hy0 : 0 ≤ y
      · have t3 : decide (0 ≤ y) = true := by simpa using hy0
        have HV : Hid (X.enterE q = 8 ∧ X.enter q = X) := Lib.hid (by constructor <;> simp only [XA.enterE, XA.enter, HS.out, HY.out, if_true] <;> (first | rw [if_pos hy0] | rw [if_neg (by omega)]) <;> rfl)
        clear hy0
        go_enter Try.func22, Try.ntmps22
        go_wp2
        refine bodyPost_ret (v := .tuple #[.agg #[.slice (some ⟨g, off, none⟩) X.inn.length ic, .int .i64 X.ep, .slice ra X.row.length rc], .int .i64 8]) (by simp [results, Try.results22, go_sem, *]) rfl ⟨_, (by first | (rw [HV.out.1]; done) | (rw [HV.out.1]; rfl)), ?_⟩
        rw [HV.out.2]
        first | exact HKeep.out _ _ _ _ _ (((Fr.refl _ _).alloc _).alloc _) (by omega) | exact ⟨HX.out.keep (((Fr.refl [] w).alloc _).alloc _) (by simp), ((Fr.refl [] w).alloc _).alloc _⟩
      · have t3 : decide (0 ≤ y) = false := by simpa using hy0
        have HV : Hid (X.enterE q = 0 ∧ X.enter q = { X with inn := X.inn.set q X.ep }) := Lib.hid (by constructor <;> simp only [XA.enterE, XA.enter, HS.out, HY.out, if_true] <;> (first | rw [if_pos hy0] | rw [if_neg (by omega)]) <;> rfl)
        clear hy0
        go_enter Try.func22, Try.ntmps22
        go_wp2_with (at_builtin; refine wpList_append_any rfl (.tmp 25) (.tmp 27) 26 3 (.int .i64 0) 1 8 rfl rint_slice rint_info rfl (by decide) (.slice (some ⟨w.heap.size + 1 + 1 + 1, 0, none⟩) 0 0) 0 [] rfl (lies_empty _ _ _ _ (by simp)) (.slice (some ⟨g, off, none⟩) X.inn.length ic) X.inn.length (X.inn.map (Value.int .i64)) rfl ?src (one_ints .i64 (fun (x : Int) => x) _) (by unfold maxLen; omega) (by omega) ?app)
        case src => exact HS0.out.ins.keep ((((((Fr.refl [] w).alloc _).alloc _).alloc _).alloc _)) (by simp)
        case app =>
        intro v3 w3 ho3 hf3 hn3
        have ho : Lies w3 3 1 v3 X.inn.length (X.inn.map (Value.int .i64)) := by simpa using ho3
        obtain ⟨tg, to', tc, rfl, htg, htc, htcells⟩ := ho.here (by omega)
        have htg1 : w.heap.size + 1 + 1 < tg := by
          rcases hn3 tg rfl with h | h
          · first | omega | (simp [Value.ownBlock] at h; omega)
          · first | omega | (simp at h; omega)
        obtain ⟨tq, tf⟩ := htcells q (by omega)
        obtain ⟨z, hz⟩ : ∃ z, (X.inn.map (Value.int .i64))[q]? = some z := ⟨_, List.getElem?_eq_getElem (by simpa using hq)⟩
        rw [hz] at tq
        obtain ⟨hA, hB, hC⟩ := boxes4 hf3 (by simp [Value.ownBlock] <;> omega) (by simp [Value.ownBlock] <;> omega) (by simp [Value.ownBlock] <;> omega)
        obtain ⟨a0, a1, a2, _⟩ := cells3 hA
        obtain ⟨b0, b1, b2, bf⟩ := cells3 hB
        obtain ⟨e0, e1, e2, ef⟩ := cells3 hC
        have hF3 : Fr [] w w3 := (((((Fr.refl [] w).alloc _).alloc _).alloc _).alloc _).trans hf3 (by intro k hk; simp [Value.ownBlock] at hk; exact Or.inr (by omega))
        have bf0 := bf 0
        have bf1 := bf 1
        have bf2 := bf 2
        have ef0 := ef 0
        have n1 : ¬ w.heap.size + 1 + 1 = tg := by omega
        have n2 : ¬ tg = w.heap.size + 1 + 1 := by omega
        have n3 : ¬ w.heap.size + 1 = tg := by omega
        have n4 : ¬ w.heap.size = tg := by omega
        have n5 : ¬ tg = w.heap.size + 1 := by omega
        have n6 : ¬ tg = w.heap.size := by omega
        have n7 : ¬ w.heap.size = w.heap.size + 1 + 1 := by omega
        have HO := Lib.hid ho
        have HF := Lib.hid hF3
        clear ho ho3 hf3 hn3 htcells hA hB hC hF3 bf ef hz
        go_wp2
        refine bodyPost_ret (v := .tuple #[.agg #[.slice (some ⟨tg, to', none⟩) X.inn.length tc, .int .i64 X.ep, .slice ra X.row.length rc], .int .i64 0]) (by simp [results, Try.results22, go_sem, *]) rfl ⟨_, (by first | (rw [HV.out.1]; done) | (rw [HV.out.1]; rfl)), ?_⟩
        rw [HV.out.2]
        have hE : Fr [] w ((w3.setCell ⟨w.heap.size + 1 + 1, 0, none⟩ (.slice (some ⟨tg, to', none⟩) X.inn.length tc)).setCell ⟨tg, to' + q, none⟩ (.int .i64 X.ep)) := (HF.out.setNew (by omega) _).setNew (by omega) _
        have hL := (HO.out.other ⟨w.heap.size + 1 + 1, 0, none⟩ (by simp [Value.ownBlock]; omega) (.slice (some ⟨tg, to', none⟩) X.inn.length tc)).set q (.int .i64 X.ep)
        refine ⟨⟨_, _, rfl, ?_, ?_⟩, hE.set3 (by omega) _ _ _⟩
        · have := hL.keep ((Fr.refl [w.heap.size + 1] _).setCell (p := ⟨w.heap.size + 1, 0, none⟩) (Or.inl (by simp)) (.slice (some ⟨tg, to', none⟩) X.inn.length tc) |>.setCell (p := ⟨w.heap.size + 1, 1, none⟩) (Or.inl (by simp)) (.int .i64 X.ep) |>.setCell (p := ⟨w.heap.size + 1, 2, none⟩) (Or.inl (by simp)) (.slice ra X.row.length rc)) (by intro k hk; simp [Value.ownBlock] at hk; simp; omega)
          simpa [List.map_set] using this
        · exact HS0.out.row.keep (hE.set3 (by omega) _ _ _) (by simp)
    · have t2 : decide ((X.inn.length : Int) ≤ t) = true := by simp; omega
      have HS := Lib.hid (show X.has t = false from by simp [XA.has]; omega)
      clear h
      go_enter Try.func22, Try.ntmps22
      go_wp2
      refine bodyPost_ret (v := .tuple #[.agg #[.slice ia X.inn.length ic, .int .i64 X.ep, .slice ra X.row.length rc], .int .i64 1]) (by simp [results, Try.results22, go_sem, *]) rfl ⟨_, (by rw [XA.enterE, HS.out]; rfl), ?_⟩
      rw [XA.enter, HS.out]
      first | exact HKeep.out _ _ _ _ _ (((Fr.refl _ _).alloc _).alloc _) (by omega) | exact ⟨HX.out.keep (((Fr.refl [] w).alloc _).alloc _) (by simp), ((Fr.refl [] w).alloc _).alloc _⟩
  · have t1 : decide (t < 0) = true := by simp; omega
    have HS := Lib.hid (show X.has t = false from by simp [XA.has]; omega)
    clear h
    go_enter Try.func22, Try.ntmps22
    go_wp2
    refine bodyPost_ret (v := .tuple #[.agg #[.slice ia X.inn.length ic, .int .i64 X.ep, .slice ra X.row.length rc], .int .i64 1]) (by simp [results, Try.results22, go_sem, *]) rfl ⟨_, (by rw [XA.enterE, HS.out]; rfl), ?_⟩
    rw [XA.enter, HS.out]
    first | exact HKeep.out _ _ _ _ _ (((Fr.refl _ _).alloc _).alloc _) (by omega) | exact ⟨HX.out.keep (((Fr.refl [] w).alloc _).alloc _) (by simp), ((Fr.refl [] w).alloc _).alloc _⟩

set_option maxHeartbeats 2000000 in
theorem rexit_any (w : World) (t : Int) {V : Value} {X : XA} (h : RefS w V X) (hl : X.inn.length ≤ 8) :
    Calls Try.prog 23 #[V, .int .i64 t] w (Ref2 w (X.exit t) (.int .i64 (X.exitE t))) := by
  have HX := Lib.hid h
  obtain ⟨iv, rv, rfl, h⟩ := h
  have HS0 := Lib.hid h
  obtain ⟨⟨ia, ic, rfl⟩, ⟨ra, rc, rfl⟩⟩ := h.forms
  unfold refAgg at HX ⊢
  have HKeep : Hid (∀ W b u0 u1 u2, Fr [] w W → w.heap.size ≤ b → RefNext w (refAgg (.slice ia X.inn.length ic) (.slice ra X.row.length rc) X.ep) X (((W.setCell ⟨b, 0, none⟩ u0).setCell ⟨b, 1, none⟩ u1).setCell ⟨b, 2, none⟩ u2)) :=
    Lib.hid (fun W b u0 u1 u2 hW hb => ⟨HX.out.keep (hW.set3 hb u0 u1 u2) (by simp), hW.set3 hb u0 u1 u2⟩)
  by_cases h0 : 0 ≤ t
  · have t1 : decide (t < 0) = false := by simpa using h0
    by_cases h1 : t < X.inn.length
    · obtain ⟨q, rfl⟩ := Int.eq_ofNat_of_zero_le h0
      have hq : q < X.inn.length := by omega
      have t2 : decide ((X.inn.length : Int) ≤ q) = false := by simp; omega
      have HS := Lib.hid (show X.has q = true from by simp [XA.has]; omega)
      obtain ⟨y, hy⟩ : ∃ y, X.inn[q]? = some y := ⟨_, List.getElem?_eq_getElem hq⟩
      have HY := Lib.hid (show X.since q = y from by simp [XA.since, List.getD_eq_getElem?_getD, hy])
      obtain ⟨g, off, c, hv, hg, hc, hcells⟩ := h.ins.here (by omega)
      cases hv
      obtain ⟨d0, _⟩ := hcells q (by omega)
      rw [List.getElem?_map, hy] at d0
      replace d0 : w.cell? ⟨g, off + q, none⟩ = some (.int .i64 y) := d0
      have hgn : ¬ g = w.heap.size := by omega
      have hgn1 : ¬ g = w.heap.size + 1 := by omega
      clear h hcells hy
      by_cases hy0 : 0 ≤ y
      · have t3 : decide (y < 0) = false := by simpa using hy0
        have HV : Hid (X.exitE q = 0 ∧ X.exit q = { X with inn := X.inn.set q (-1) }) := Lib.hid (by constructor <;> simp only [XA.exitE, XA.exit, HS.out, HY.out, if_true] <;> (first | rw [if_pos hy0] | rw [if_neg (by omega)]) <;> rfl)
        clear hy0
        go_enter Try.func23, Try.ntmps23
        go_wp2_with (at_builtin; refine wpList_append_any rfl (.tmp 25) (.tmp 27) 26 3 (.int .i64 0) 1 8 rfl rint_slice rint_info rfl (by decide) (.slice (some ⟨w.heap.size + 1 + 1 + 1, 0, none⟩) 0 0) 0 [] rfl (lies_empty _ _ _ _ (by simp)) (.slice (some ⟨g, off, none⟩) X.inn.length ic) X.inn.length (X.inn.map (Value.int .i64)) rfl ?src (one_ints .i64 (fun (x : Int) => x) _) (by unfold maxLen; omega) (by omega) ?app)
        case src => exact HS0.out.ins.keep ((((((Fr.refl [] w).alloc _).alloc _).alloc _).alloc _)) (by simp)
        case app =>
        intro v3 w3 ho3 hf3 hn3
        have ho : Lies w3 3 1 v3 X.inn.length (X.inn.map (Value.int .i64)) := by simpa using ho3
        obtain ⟨tg, to', tc, rfl, htg, htc, htcells⟩ := ho.here (by omega)
        have htg1 : w.heap.size + 1 + 1 < tg := by
          rcases hn3 tg rfl with h | h
          · first | omega | (simp [Value.ownBlock] at h; omega)
          · first | omega | (simp at h; omega)
        obtain ⟨tq, tf⟩ := htcells q (by omega)
        obtain ⟨z, hz⟩ : ∃ z, (X.inn.map (Value.int .i64))[q]? = some z := ⟨_, List.getElem?_eq_getElem (by simpa using hq)⟩
        rw [hz] at tq
        obtain ⟨hA, hB, hC⟩ := boxes4 hf3 (by simp [Value.ownBlock] <;> omega) (by simp [Value.ownBlock] <;> omega) (by simp [Value.ownBlock] <;> omega)
        obtain ⟨a0, a1, a2, _⟩ := cells3 hA
        obtain ⟨b0, b1, b2, bf⟩ := cells3 hB
        obtain ⟨e0, e1, e2, ef⟩ := cells3 hC
        have hF3 : Fr [] w w3 := (((((Fr.refl [] w).alloc _).alloc _).alloc _).alloc _).trans hf3 (by intro k hk; simp [Value.ownBlock] at hk; exact Or.inr (by omega))
        have bf0 := bf 0
        have bf1 := bf 1
        have bf2 := bf 2
        have ef0 := ef 0
        have n1 : ¬ w.heap.size + 1 + 1 = tg := by omega
        have n2 : ¬ tg = w.heap.size + 1 + 1 := by omega
        have n3 : ¬ w.heap.size + 1 = tg := by omega
        have n4 : ¬ w.heap.size = tg := by omega
        have n5 : ¬ tg = w.heap.size + 1 := by omega
        have n6 : ¬ tg = w.heap.size := by omega
        have n7 : ¬ w.heap.size = w.heap.size + 1 + 1 := by omega
        have HO := Lib.hid ho
        have HF := Lib.hid hF3
        clear ho ho3 hf3 hn3 htcells hA hB hC hF3 bf ef hz
        go_wp2
        refine bodyPost_ret (v := .tuple #[.agg #[.slice (some ⟨tg, to', none⟩) X.inn.length tc, .int .i64 X.ep, .slice ra X.row.length rc], .int .i64 0]) (by simp [results, Try.results23, go_sem, *]) rfl ⟨_, (by first | (rw [HV.out.1]; done) | (rw [HV.out.1]; rfl)), ?_⟩
        rw [HV.out.2]
        have hE : Fr [] w ((w3.setCell ⟨w.heap.size + 1 + 1, 0, none⟩ (.slice (some ⟨tg, to', none⟩) X.inn.length tc)).setCell ⟨tg, to' + q, none⟩ (.int .i64 (-1))) := (HF.out.setNew (by omega) _).setNew (by omega) _
        have hL := (HO.out.other ⟨w.heap.size + 1 + 1, 0, none⟩ (by simp [Value.ownBlock]; omega) (.slice (some ⟨tg, to', none⟩) X.inn.length tc)).set q (.int .i64 (-1))
        refine ⟨⟨_, _, rfl, ?_, ?_⟩, hE.set3 (by omega) _ _ _⟩
        · have := hL.keep ((Fr.refl [w.heap.size + 1] _).setCell (p := ⟨w.heap.size + 1, 0, none⟩) (Or.inl (by simp)) (.slice (some ⟨tg, to', none⟩) X.inn.length tc) |>.setCell (p := ⟨w.heap.size + 1, 1, none⟩) (Or.inl (by simp)) (.int .i64 X.ep) |>.setCell (p := ⟨w.heap.size + 1, 2, none⟩) (Or.inl (by simp)) (.slice ra X.row.length rc)) (by intro k hk; simp [Value.ownBlock] at hk; simp; omega)
          simpa [List.map_set] using this
        · exact HS0.out.row.keep (hE.set3 (by omega) _ _ _) (by simp)
      · have t3 : decide (y < 0) = true := by simp; omega
        have HV : Hid (X.exitE q = 4 ∧ X.exit q = X) := Lib.hid (by constructor <;> simp only [XA.exitE, XA.exit, HS.out, HY.out, if_true] <;> (first | rw [if_pos hy0] | rw [if_neg (by omega)]) <;> rfl)
        clear hy0
        go_enter Try.func23, Try.ntmps23
        go_wp2
        refine bodyPost_ret (v := .tuple #[.agg #[.slice (some ⟨g, off, none⟩) X.inn.length ic, .int .i64 X.ep, .slice ra X.row.length rc], .int .i64 4]) (by simp [results, Try.results23, go_sem, *]) rfl ⟨_, (by first | (rw [HV.out.1]; done) | (rw [HV.out.1]; rfl)), ?_⟩
        rw [HV.out.2]
        first | exact HKeep.out _ _ _ _ _ (((Fr.refl _ _).alloc _).alloc _) (by omega) | exact ⟨HX.out.keep (((Fr.refl [] w).alloc _).alloc _) (by simp), ((Fr.refl [] w).alloc _).alloc _⟩
    · have t2 : decide ((X.inn.length : Int) ≤ t) = true := by simp; omega
      have HS := Lib.hid (show X.has t = false from by simp [XA.has]; omega)
      clear h
      go_enter Try.func23, Try.ntmps23
      go_wp2
      refine bodyPost_ret (v := .tuple #[.agg #[.slice ia X.inn.length ic, .int .i64 X.ep, .slice ra X.row.length rc], .int .i64 1]) (by simp [results, Try.results23, go_sem, *]) rfl ⟨_, (by rw [XA.exitE, HS.out]; rfl), ?_⟩
      rw [XA.exit, HS.out]
      first | exact HKeep.out _ _ _ _ _ (((Fr.refl _ _).alloc _).alloc _) (by omega) | exact ⟨HX.out.keep (((Fr.refl [] w).alloc _).alloc _) (by simp), ((Fr.refl [] w).alloc _).alloc _⟩
  · have t1 : decide (t < 0) = true := by simp; omega
    have HS := Lib.hid (show X.has t = false from by simp [XA.has]; omega)
    clear h
    go_enter Try.func23, Try.ntmps23
    go_wp2
    refine bodyPost_ret (v := .tuple #[.agg #[.slice ia X.inn.length ic, .int .i64 X.ep, .slice ra X.row.length rc], .int .i64 1]) (by simp [results, Try.results23, go_sem, *]) rfl ⟨_, (by rw [XA.exitE, HS.out]; rfl), ?_⟩
    rw [XA.exit, HS.out]
    first | exact HKeep.out _ _ _ _ _ (((Fr.refl _ _).alloc _).alloc _) (by omega) | exact ⟨HX.out.keep (((Fr.refl [] w).alloc _).alloc _) (by simp), ((Fr.refl [] w).alloc _).alloc _⟩
end Go.Proofs.Ytphniphlflijeaa
