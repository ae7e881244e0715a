/- PACKAGE event: Filter, Restrict: contracts -/
import Derived.Test.YtmbfcdoemcffpaaEvSel
import Derived.Test.YtmbfcdoemcffpaaKeyA
namespace Go.Proofs.Ytmbfcdoemcffpaa
open Go.RowKit
set_option linter.unusedVariables false
set_option linter.unusedSimpArgs false

set_option maxHeartbeats 1000000 in
theorem event_filter_new (lv : Value) (l : List Ev) (f t : ByteArray) (w : World) (hl : EvIn w lv l) (bl : l.length ≤ many) : Calls Try.prog 54 #[lv, .agg #[.string f, .string t]] w fun e w' => ∃ v, e = .returned v ∧ EvIn w' v (filterE f t l) ∧ Fr [] w w' ∧ ∀ k, v.ownBlock = some k → w.heap.size ≤ k := by
  unfold many at bl
  obtain ⟨s1, c1, rfl, la, ma⟩ := hl.form
  unfold maxLen at ma
  obtain ⟨wb, hwb⟩ : ∃ wb, wb = w.alloc (Obj.cells #[.string f, .string t] 23) := ⟨_, rfl⟩
  have HWB := Lib.hid hwb
  have HL : Hid (EvIn wb (.slice s1 l.length c1) l) := Lib.hid (by rw [hwb]; exact hl.keep0 ((Fr.refl [] w).alloc _))
  have HX : Hid (wb.heap[w.heap.size]? = some (.cells #[.string f, .string t] 23 (0, 0))) := Lib.hid (by rw [hwb]; exact new_block w _)
  clear hl hwb
  go_enter Try.func54, Try.ntmps54
  go_wp2_with fail
  rw [← HWB.out]
  go_loopw [5, 10] (fun v i wr => ∃ (j : Nat) (o : List Ev), i = .int .i64 j ∧ j ≤ l.length ∧ OutAt Ev.cells 67 4 wb wr v o ∧ o ++ filterE f t (l.drop j) = filterE f t l ∧ o.length ≤ j ∧ Fr [] wb wr) (fun _ i _ => l.length - (intOf i).toNat)
  case atStart => exact ⟨0, [], rfl, Nat.zero_le _, OutAt.nil _ _, rfl, Nat.zero_le _, Fr.refl _ _⟩
  case round =>
    obtain ⟨j, o, rfl, hj, ho, hs, hol, hf⟩ := hrel
    have HO := Lib.hid ho
    have HS := Lib.hid hs
    have HF := Lib.hid hf
    clear ho hs hf
    by_cases h : j < l.length
    · obtain ⟨x, hx⟩ : ∃ x, l[j]? = some x := ⟨_, List.getElem?_eq_getElem h⟩
      obtain ⟨g, off, d1, e1, _, l1, k1⟩ := EvIn.here (LIn.keep0 HL.out HF.out) (by omega)
      simp only [Value.slice.injEq] at e1
      obtain ⟨rfl, _, rfl⟩ := e1
      obtain ⟨p0, p1, p2, p3⟩ := k1 j x hx
      obtain ⟨b0, b1, _⟩ := cells2 (HF.out.keep HX.out (by simp))
      have HSTEP := Lib.hid (filt_step (p := fun x => inR f t x.key) hx)
      have t1 : decide (j < l.length) = true := by simpa using h
      have hz1 : wb.heap.size = w.heap.size + 1 := by rw [HWB.out]; simp
      have hz2 := HF.out.size
      have n1 : ¬ w.heap.size = wr.heap.size := by omega
      have n2 : ¬ wr.heap.size = w.heap.size := by omega
      have n3 : w.heap.size < wr.heap.size := by omega
      clear hx k1 hz1 hz2
      go_wp2_with (go_at_call 50; refine (key_in _ _ _ _).mono ?_; rintro e wn ⟨rfl, h2⟩; refine go_stop ?_)
      unfold Stop
      have hnew := h2.keep (new_block wr _) (by simp)
      have hfn : Fr [] wr wn := ((Fr.refl [] wr).alloc _).trans h2 (by simp)
      have HN := Lib.hid (HF.out.trans hfn (by simp))
      have HON := Lib.hid (HO.out.keep hfn)
      obtain ⟨q0, q1, q2, q3, _⟩ := cells4 hnew
      clear h2 hnew hfn p0 p1 p2 p3 b0 b1
      cases hI : inB f.toList t.toList x.key.toList
      all_goals
        have HI : Hid (inR f t x.key = _) := Lib.hid hI
        clear hI
      · go_wp2_with fail
        go_roundw
        case rel =>
          refine ⟨j + 1, o, by go_num, by omega, HON.out, ?_, by omega, HN.out⟩
          have h2 := HSTEP.out
          rw [HI.out, if_neg (by simp), List.nil_append] at h2
          rw [← HS.out]
          unfold filterE
          rw [h2]
        case measure => simp [intOf]; omega
      · go_wp2_with (at_builtin; refine wpList_append_any rfl (.tmp 18) (.tmp 20) 30 67 (.agg #[.int .i64 0, .string ⟨#[]⟩, .string ⟨#[]⟩, .bool false]) 4 48 rfl ev_slice ev_info rfl (by decide) _ o.length (allC Ev.cells o) rfl (HON.out.lies.keep0 ((Fr.refl [] _).alloc _)) _ 1 x.cells rfl (lies_row wn 67 x.cells rfl _ rfl) x.cone (by unfold maxLen; omega) (by omega) ?app)
        case app =>
        intro v' w' h1 h2 h3
        have ha := (HON.out.keep ((Fr.refl [] wn).alloc (.cells x.cells.toArray 67)))
        have HA := Lib.hid (OutAt.app ha (by have := HN.out.size; omega) (xs := [x]) (by rw [allC_one]; exact h1) rfl h3)
        have HG := Lib.hid (OutAt.fr ha (HN.out.alloc _) h2)
        clear h1 h2 h3 ha
        go_wp2_with fail
        go_roundw
        case rel =>
          refine ⟨j + 1, o ++ [x], by go_num, by omega, HA.out, ?_, by simp; omega, HG.out⟩
          have h2 := HSTEP.out
          rw [HI.out, if_pos rfl] at h2
          rw [← HS.out]
          unfold filterE
          rw [h2, List.append_assoc]
        case measure => simp [intOf]; omega
    · have t1 : decide (j < l.length) = false := by simpa using h
      go_wp2
      go_ret
      refine ⟨_, rfl, ?_, ?_, ?_⟩
      · have := HS.out
        rw [List.drop_of_length_le (by omega)] at this
        rw [← this, show o ++ filterE f t [] = o by simp [filterE]]
        exact LAt.read HO.out.lies Ev.clen
      · have := HF.out
        rw [HWB.out] at this
        exact ((Fr.refl [] w).alloc _).trans this (by simp)
      · have h1 := HO.out.new
        have h2 : wb.heap.size = w.heap.size + 1 := by rw [HWB.out]; simp
        exact fun k hk => by have := h1 k hk; omega
theorem event_filter (lv : Value) (l : List Ev) (f t : ByteArray) (w : World) (hl : EvIn w lv l) (bl : l.length ≤ many) : Calls Try.prog 54 #[lv, .agg #[.string f, .string t]] w fun e w' => ∃ v, e = .returned v ∧ EvIn w' v (filterE f t l) ∧ Fr [] w w' := (event_filter_new lv l f t w hl bl).mono fun _ _ ⟨v, h1, h2, h3, _⟩ => ⟨v, h1, h2, h3⟩
end Go.Proofs.Ytmbfcdoemcffpaa
