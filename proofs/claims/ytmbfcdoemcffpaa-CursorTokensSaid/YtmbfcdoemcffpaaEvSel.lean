/- THE DOCUMENT's Filter AND Restrict (impostref05): contracts -/
import Derived.Test.YtmbfcdoemcffpaaIn
import Derived.Test.YtmbfcdoemcffpaaKeyRef
namespace Go.Proofs.Ytmbfcdoemcffpaa
open Go.RowKit
set_option linter.unusedVariables false
set_option linter.unusedSimpArgs false

theorem filt_step {α : Type} {p : α → Bool} {l : List α} {j : Nat} {x : α} (hx : l[j]? = some x) : (l.drop j).filter p = (if p x then [x] else []) ++ (l.drop (j + 1)).filter p := by
  obtain ⟨h1, rfl⟩ := List.getElem?_eq_some_iff.1 hx
  rw [List.drop_eq_getElem_cons h1, List.filter_cons]
  split <;> rfl
/-- a row of one's own: it lies there, in a block that was made later than wb -/
structure OutAt {α : Type} (cs : α → List Value) (e : TypeId) (sz : Nat) (wb wr : World) (v : Value) (o : List α) : Prop where
  lies : LAt cs e sz wr v o
  new : ∀ k, v.ownBlock = some k → wb.heap.size ≤ k
section
variable {α : Type} {cs : α → List Value} {sz : Nat} {e : TypeId} {wb wr w' : World} {v : Value} {o : List α}
theorem OutAt.nil (wb wr : World) : OutAt cs e sz wb wr (.slice none 0 0) [] := ⟨LAt.nil wr, by simp [Value.ownBlock]⟩
theorem OutAt.keep (h : OutAt cs e sz wb wr v o) (hf : Fr [] wr w') : OutAt cs e sz wb w' v o := ⟨h.lies.keep0 hf, h.new⟩
/-- behind an append to it -/
theorem OutAt.app {W : World} {v' : Value} {n B : Nat} {xs : List α} (h : OutAt cs e sz wb W v o) (hb : wb.heap.size ≤ B) (h1 : Lies w' e sz v' (o.length + n) (allC cs o ++ allC cs xs)) (hn : xs.length = n)
    (h3 : ∀ k, v'.ownBlock = some k → v.ownBlock = some k ∨ k = B) : OutAt cs e sz wb w' v' (o ++ xs) := by
  refine ⟨?_, fun k hk => ?_⟩
  · unfold LAt; rw [allC_app, List.length_append, hn]; exact h1
  · rcases h3 k hk with h4 | rfl
    · exact h.new k h4
    · exact hb
theorem OutAt.fr {W : World} (h : OutAt cs e sz wb W v o) (hW : Fr [] wb W) (hf : Fr v.ownBlock.toList W w') : Fr [] wb w' :=
  hW.trans hf (fun k hk => Or.inr (h.new k (by simpa using hk)))
end
set_option maxHeartbeats 1000000 in
theorem rfilter_new (lv : Value) (l : List Ev) (f t : ByteArray) (w : World) (hl : EvIn w lv l) (hm : l.length ≤ many) : Calls Try.prog 31 #[lv, .agg #[.string f, .string t]] w fun e w' => ∃ v, e = .returned v ∧ EvAt w' v (filterE f t l) ∧ Fr [] w w' ∧ ∀ k, v.ownBlock = some k → w.heap.size ≤ k := by
  unfold many at hm
  obtain ⟨s1, c1, rfl, la, ma⟩ := hl.form
  unfold maxLen at ma
  obtain ⟨wb, hwb⟩ : ∃ wb, wb = w.alloc (Obj.cells #[.string f, .string t] 23) := ⟨_, rfl⟩
  have HWB := Lib.hid hwb
  have HL : Hid (EvIn wb (.slice s1 l.length c1) l) := Lib.hid (by rw [hwb]; exact hl.keep0 ((Fr.refl [] w).alloc _))
  have HX : Hid (wb.heap[w.heap.size]? = some (.cells #[.string f, .string t] 23 (0, 0))) := Lib.hid (by rw [hwb]; exact new_block w _)
  clear hl hwb
  go_enter Try.func31, Try.ntmps31
  go_wp2_with fail
  rw [← HWB.out]
  go_loopw [5, 6] (fun v i wr => ∃ (j : Nat) (o : List Ev), i = .int .i64 j ∧ j ≤ l.length ∧ OutAt Ev.cells 67 4 wb wr v o ∧ o ++ filterE f t (l.drop j) = filterE f t l ∧ o.length ≤ j ∧ Fr [] wb wr) (fun _ i _ => l.length - (intOf i).toNat)
  case atStart => exact ⟨0, [], rfl, Nat.zero_le _, OutAt.nil _ _, rfl, Nat.zero_le _, Fr.refl _ _⟩
  case round =>
    obtain ⟨j, o, rfl, hj, ho, hs, hol, hf⟩ := hrel
    have HO := Lib.hid ho
    have HS := Lib.hid hs
    have HF := Lib.hid hf
    clear ho hs hf
    by_cases h : j < l.length
    · obtain ⟨x, hx⟩ : ∃ x, l[j]? = some x := ⟨_, List.getElem?_eq_getElem h⟩
      obtain ⟨g, off, d1, e1, _, l1, k1⟩ := EvIn.here (LIn.keep0 HL.out HF.out) (by omega)
      simp only [Value.slice.injEq] at e1
      obtain ⟨rfl, _, rfl⟩ := e1
      have HP := Lib.hid (k1 j x hx)
      obtain ⟨b0, b1, _⟩ := cells2 (HF.out.keep HX.out (by simp))
      have HSTEP := Lib.hid (filt_step (p := fun x => inR f t x.key) hx)
      have t1 : decide (j < l.length) = true := by simpa using h
      have A0 := fun n : After [] wr => n.cell b0 (by simp)
      have A1 := fun n : After [] wr => n.cell b1 (by simp)
      have A2 := fun n : After [] wr => n.cell HP.out.c1 (by simp)
      clear hx k1 b0 b1
      cases hI : inR f t x.key
      all_goals
        have HI := Lib.hid hI
        clear hI
        go_wp2_with fail
        refine wp_region_after [] (by kernel_rfl) (by kernel_rfl) ?_
        repeat (go_big_quiet_step ((go_at_call 53; exact After.quiet_bool (rin_any _ _ _ _) HI.out)))
        refine wpQuiet_nil ?_
        rintro _ ⟨nq, rfl⟩
        have HN := Lib.hid (HF.out.trans nq.fr (by simp))
        have HON := Lib.hid (HO.out.keep nq.fr)
        obtain ⟨p0, p1, p2, p3⟩ := HP.out.keep nq.fr (by simp)
        clear A0 A1 A2
      · go_wp2_with fail
        go_roundw
        case rel =>
          refine ⟨j + 1, o, by go_num, by omega, HON.out, ?_, by omega, HN.out⟩
          have h2 := HSTEP.out
          rw [HI.out, if_neg (by simp), List.nil_append] at h2
          rw [← HS.out]
          unfold filterE
          rw [h2]
        case measure => simp [intOf]; omega
      · go_wp2_with (at_builtin; refine wpList_append_any rfl (.tmp 20) (.tmp 25) 30 67 (.agg #[.int .i64 0, .string ⟨#[]⟩, .string ⟨#[]⟩, .bool false]) 4 48 rfl ev_slice ev_info rfl (by decide) _ o.length (allC Ev.cells o) rfl (HON.out.lies.keep0 ((Fr.refl [] _).alloc _)) _ 1 x.cells rfl (lies_row nq.now 67 x.cells rfl _ rfl) x.cone (by unfold maxLen; omega) (by omega) ?app)
        case app =>
        intro v' w' h1 h2 h3
        have ha := (HON.out.keep ((Fr.refl [] nq.now).alloc (.cells x.cells.toArray 67)))
        have HA := Lib.hid (OutAt.app ha (by have := HN.out.size; omega) (xs := [x]) (by rw [allC_one]; exact h1) rfl h3)
        have HG := Lib.hid (OutAt.fr ha (HN.out.alloc _) h2)
        clear h1 h2 h3 ha
        go_wp2_with fail
        go_roundw
        case rel =>
          refine ⟨j + 1, o ++ [x], by go_num, by omega, HA.out, ?_, by simp; omega, HG.out⟩
          have h2 := HSTEP.out
          rw [HI.out, if_pos rfl] at h2
          rw [← HS.out]
          unfold filterE
          rw [h2, List.append_assoc]
        case measure => simp [intOf]; omega
    · have t1 : decide (j < l.length) = false := by simpa using h
      go_wp2
      go_ret
      refine ⟨_, rfl, ?_, ?_, ?_⟩
      · have := HS.out
        rw [List.drop_of_length_le (by omega)] at this
        rw [← this, show o ++ filterE f t [] = o by simp [filterE]]
        exact HO.out.lies
      · have := HF.out
        rw [HWB.out] at this
        exact ((Fr.refl [] w).alloc _).trans this (by simp)
      · have h1 := HO.out.new
        rw [HWB.out] at h1
        intro k hk
        have := h1 k hk
        simp at this
        omega
theorem rfilter_any (lv : Value) (l : List Ev) (f t : ByteArray) (w : World) (hl : EvIn w lv l) (hm : l.length ≤ many) : Calls Try.prog 31 #[lv, .agg #[.string f, .string t]] w fun e w' => ∃ v, e = .returned v ∧ EvAt w' v (filterE f t l) ∧ Fr [] w w' :=
  (rfilter_new lv l f t w hl hm).mono fun _ _ ⟨v, h1, h2, h3, _⟩ => ⟨v, h1, h2, h3⟩
end Go.Proofs.Ytmbfcdoemcffpaa
