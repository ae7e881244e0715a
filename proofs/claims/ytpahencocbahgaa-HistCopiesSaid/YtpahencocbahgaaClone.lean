/- PACKAGE slices: Clone of events: contracts -/
import Derived.Test.YtpahencocbahgaaEvSel
import Derived.WalkSpells
namespace Go.Proofs.Ytpahencocbahgaa
open Go.RowKit
set_option linter.unusedVariables false
set_option linter.unusedSimpArgs false

theorem ver_slice : Try.prog.underlying 67 = some (.slice 70) := Try.underlying67
set_option maxRecDepth 100000 in
theorem clone_ev (v : Value) (l : List Ev) (w : World) (hl : EvIn w v l) (bl : l.length ≤ many) : Calls Try.prog 34 #[v] w fun e w' => ∃ v', e = .returned v' ∧ OutAt Ev.cells 70 4 w w' v' l ∧ Fr [] w w' := by
  unfold many at bl
  obtain ⟨s1, c1, rfl, la, ma⟩ := hl.form
  unfold maxLen at ma
  have HL := Lib.hid hl
  have heq := fun a n c w => Lib.run_eql_slice_nil (P := Try.prog) w 50 70 a n c 0 0 (by first | exact ev_slice | exact ver_slice)
  cases s1 with
  | none =>
    have h0 : l.length = 0 := by
      rcases Nat.eq_zero_or_pos l.length with h | h
      · exact h
      · obtain ⟨g, off, c, hc, _⟩ := hl.here h; cases hc
    obtain rfl := List.eq_nil_of_length_eq_zero h0
    clear hl h0 la ma bl HL
    go_enter Try.func34, Try.ntmps34
    go_wp2
    go_ret
    exact ⟨_, rfl, OutAt.nil _ _, Fr.refl _ _⟩
  | some ad =>
    clear hl
    go_enter Try.func34, Try.ntmps34
    go_wp2_with (at_builtin; refine wpList_append_src rfl (.tmp 5) (.tmp 6) 50 70 (.agg #[.int .i64 0, .string ⟨#[]⟩, .string ⟨#[]⟩, .bool false]) 4 48 rfl (by first | exact ev_slice | exact ver_slice) ev_info rfl (by decide) (.slice (some ⟨w.heap.size, 0, none⟩) 0 0) 0 [] rfl (lies_empty w 70 4 _ rfl) (.slice (some ad) l.length c1) l.length (allC Ev.cells l) rfl (LIn.src (LIn.keep0 HL.out ((Fr.refl [] w).alloc (.cells #[] 70))) Ev.clen (by decide)) (allC_ones Ev.cone l) (by unfold maxLen; omega) (by omega) ?ap)
    case ap =>
    intro v' w' h1 h2 h3
    have HO : Hid (OutAt Ev.cells 70 4 w w' v' l) := Lib.hid ⟨h1, fun k hk => by
        rcases h3 k hk with h4 | h4
        · simp [Value.ownBlock] at h4; omega
        · omega⟩
    have HF : Hid (Fr [] w w') := Lib.hid (((Fr.refl [] w).alloc (.cells #[] 70)).trans h2 (by simp [Value.ownBlock]))
    clear h1 h2 h3
    go_wp2
    go_ret
    exact ⟨_, rfl, HO.out, HF.out⟩
set_option maxRecDepth 100000 in
theorem clone_ver (v : Value) (l : List Ev) (w : World) (hl : EvIn w v l) (bl : l.length ≤ many) : Calls Try.prog 38 #[v] w fun e w' => ∃ v', e = .returned v' ∧ OutAt Ev.cells 70 4 w w' v' l ∧ Fr [] w w' := by
  unfold many at bl
  obtain ⟨s1, c1, rfl, la, ma⟩ := hl.form
  unfold maxLen at ma
  have HL := Lib.hid hl
  have heq := fun a n c w => Lib.run_eql_slice_nil (P := Try.prog) w 67 70 a n c 0 0 (by first | exact ev_slice | exact ver_slice)
  cases s1 with
  | none =>
    have h0 : l.length = 0 := by
      rcases Nat.eq_zero_or_pos l.length with h | h
      · exact h
      · obtain ⟨g, off, c, hc, _⟩ := hl.here h; cases hc
    obtain rfl := List.eq_nil_of_length_eq_zero h0
    clear hl h0 la ma bl HL
    go_enter Try.func38, Try.ntmps38
    go_wp2
    go_ret
    exact ⟨_, rfl, OutAt.nil _ _, Fr.refl _ _⟩
  | some ad =>
    clear hl
    go_enter Try.func38, Try.ntmps38
    go_wp2_with (at_builtin; refine wpList_append_src rfl (.tmp 5) (.tmp 6) 67 70 (.agg #[.int .i64 0, .string ⟨#[]⟩, .string ⟨#[]⟩, .bool false]) 4 48 rfl (by first | exact ev_slice | exact ver_slice) ev_info rfl (by decide) (.slice (some ⟨w.heap.size, 0, none⟩) 0 0) 0 [] rfl (lies_empty w 70 4 _ rfl) (.slice (some ad) l.length c1) l.length (allC Ev.cells l) rfl (LIn.src (LIn.keep0 HL.out ((Fr.refl [] w).alloc (.cells #[] 70))) Ev.clen (by decide)) (allC_ones Ev.cone l) (by unfold maxLen; omega) (by omega) ?ap)
    case ap =>
    intro v' w' h1 h2 h3
    have HO : Hid (OutAt Ev.cells 70 4 w w' v' l) := Lib.hid ⟨h1, fun k hk => by
        rcases h3 k hk with h4 | h4
        · simp [Value.ownBlock] at h4; omega
        · omega⟩
    have HF : Hid (Fr [] w w') := Lib.hid (((Fr.refl [] w).alloc (.cells #[] 70)).trans h2 (by simp [Value.ownBlock]))
    clear h1 h2 h3
    go_wp2
    go_ret
    exact ⟨_, rfl, HO.out, HF.out⟩
end Go.Proofs.Ytpahencocbahgaa
