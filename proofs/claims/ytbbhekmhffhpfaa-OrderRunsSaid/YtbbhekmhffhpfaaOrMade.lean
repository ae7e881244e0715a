/- impostlaw14: made: contract -/
import Derived.Test.YtbbhekmhffhpfaaOrRef
import Derived.Deep.RegionHeldLaw
namespace Go.Proofs.Ytbbhekmhffhpfaa
open Go.RowKit
set_option linter.unusedVariables false
set_option linter.unusedSimpArgs false

theorem ca_slice : Try.prog.underlying 25 = some (.slice 29) := Try.underlying25
theorem ca_info : (Try.prog.info? 29).map (fun i => (i.zero, i.size, i.bytes)) = some (some (.agg #[.int .i64 0, .string ⟨#[]⟩, .bool false, .int .i64 0, .int .i64 0]), 5, 48) := by kernel_rfl
/-- a row of calls of one's own -/
abbrev CaOut (wb wr : World) (v : Value) (o : List Ca) : Prop := OutAt Ca.cells 29 5 wb wr v o
theorem take_snocC {α : Type} {m : List α} {j : Nat} {x : α} (hx : m[j]? = some x) : m.take (j + 1) = m.take j ++ [x] := by
  obtain ⟨hj, rfl⟩ := List.getElem?_eq_some_iff.1 hx
  rw [List.take_add_one, List.getElem?_eq_getElem hj]; rfl
set_option maxRecDepth 100000 in
set_option maxHeartbeats 4000000 in
theorem or_made (lv : Value) (l : List Ca) (w : World) (hl : CaIn w lv l) (hb : l.length ≤ 1000) : Calls Try.prog 10 #[lv] w fun e w' => ∃ v, e = .returned v ∧ CaOut w w' v l ∧ Fr [] w w' := by
  obtain ⟨s1, c1, rfl, la, ma⟩ := hl.form
  unfold maxLen at ma
  have HL := Lib.hid hl
  have HOLD : Hid (0 < l.length → ∀ {g off : Nat}, s1 = some ⟨g, off, none⟩ → g < w.heap.size) := Lib.hid fun hn {g off} e => by
    obtain ⟨g', off', c', hv, h1, _⟩ := hl.here hn
    cases hv
    cases e
    exact h1
  clear hl
  go_enter Try.func10, Try.ntmps10
  go_wp2_with fail
  go_loopw [3, 4] (fun v i wr => ∃ (j : Nat) (o : List Ca), i = .int .i64 j ∧ j ≤ l.length ∧ CaOut w wr v o ∧ o = l.take j ∧ Fr [] w wr) (fun _ i _ => l.length - (intOf i).toNat)
  case atStart => exact ⟨0, [], rfl, Nat.zero_le _, OutAt.nil _ _, rfl, Fr.refl _ _⟩
  case round =>
    obtain ⟨j, o, rfl, hj, ho, hs, hf⟩ := hrel
    have hol : o.length ≤ j := by rw [hs, List.length_take]; omega
    obtain ⟨s3, c3, rfl, _, _⟩ := LAt.form ho.lies
    have HOO := Lib.hid ho
    have HSS := Lib.hid hs
    have HF := Lib.hid hf
    clear ho hs hf
    by_cases h : j < l.length
    · obtain ⟨x, hx⟩ : ∃ x, l[j]? = some x := ⟨_, List.getElem?_eq_getElem h⟩
      obtain ⟨g, off, d1, e1, hg, l1, k1⟩ := CaIn.here (LIn.keep0 HL.out HF.out) (by omega)
      cases e1
      obtain ⟨p0, p1, p2, p3, p4⟩ := k1 j x hx
      have HSN := Lib.hid (take_snocC hx)
      have t2 : decide (j < l.length) = true := by simpa using h
      have t3 : (j : Int) < (l.length : Int) := by omega
      have n3 : ¬ g = wr.heap.size := by omega
      have n4 : ¬ wr.heap.size = g := by omega
      have n5 : g < wr.heap.size := hg
      have hsz := HF.out.size
      clear hx k1
      have ng : ∀ k, (.slice s3 o.length c3 : Value).ownBlock = some k → ¬ k = g := fun k hk e => by
        have := HOO.out.new k hk
        have := HOLD.out (by omega) rfl
        omega
      go_wp2_with fail
      go_region_held3 (fun w' => w'.cell? ⟨g, off + j * 5, none⟩ = some (.int .i64 x.kind) ∧ w'.cell? ⟨g, off + j * 5 + 1, none⟩ = some (.string x.key) ∧ w'.cell? ⟨g, off + j * 5 + 2, none⟩ = some (.bool x.ok) ∧ w'.cell? ⟨g, off + j * 5 + 3, none⟩ = some (.int .i64 x.inv) ∧ w'.cell? ⟨g, off + j * 5 + 4, none⟩ = some (.int .i64 x.ret)) (first | go_keep | assumption)
        ((refine step_append_any (by rfl) (.tmp 11) (.tmp 38) 25 29 (.agg #[.int .i64 0, .string ⟨#[]⟩, .bool false, .int .i64 0, .int .i64 0]) 5 48 (by rfl) ca_slice ca_info rfl (by decide) (.slice s3 o.length c3) o.length (allC Ca.cells o) (by rfl) (LAt.keep0 HOO.out.lies (((Fr.refl [] wr).alloc _).drew)) _ 1 x.cells (by rfl) (Lies.drew (lies_row wr 29 x.cells rfl wr.heap.size rfl)) x.cone (by unfold maxLen; omega) (by omega) ?_
          intro v2 w2 ho2 hf2 hn2
          have ha := HOO.out.keep (((Fr.refl [] wr).alloc (.cells #[.int .i64 x.kind, .string x.key, .bool x.ok, .int .i64 x.inv, .int .i64 x.ret] 29)).drew)
          have HA := Lib.hid (OutAt.app ha (B := (wr.alloc (.cells #[.int .i64 x.kind, .string x.key, .bool x.ok, .int .i64 x.inv, .int .i64 x.ret] 29)).drew.heap.size) (Nat.le_trans hsz (((Fr.refl [] wr).alloc _).drew).size) (xs := [x]) (by rw [allC_one]; exact ho2) rfl hn2)
          have HG := Lib.hid (OutAt.fr ha ((HF.out.alloc _).drew) hf2)
          obtain ⟨s4, c4, hv4, _⟩ := ho2.form
          subst hv4
          have nn : g ∉ (.slice s3 o.length c3 : Value).ownBlock.toList := fun h => ng g (by simpa using h) rfl
          have hfz := (((Fr.refl [] wr).alloc (.cells #[.int .i64 x.kind, .string x.key, .bool x.ok, .int .i64 x.inv, .int .i64 x.ret] 29)).drew)
          have r0 := hf2.cell (hfz.cell p0 (by simp)) nn
          have r1 := hf2.cell (hfz.cell p1 (by simp)) nn
          have r2 := hf2.cell (hfz.cell p2 (by simp)) nn
          have r3 := hf2.cell (hfz.cell p3 (by simp)) nn
          have r4 := hf2.cell (hfz.cell p4 (by simp)) nn
          clear ho2 hf2 hn2 ha nn hfz))
      all_goals go_wp2_with fail
      all_goals go_roundw
      all_goals first
        | (show _ < _; simp [intOf]; omega)
        | (exact ⟨j + 1, o ++ [x], (by go_num), (by omega), HA.out, (by rw [HSN.out, HSS.out]), HG.out⟩)
    · have t2 : decide (j < l.length) = false := by simpa using h
      have HE : Hid (o = l) := Lib.hid (by rw [HSS.out, List.take_of_length_le (by omega)])
      go_wp2_with fail
      go_ret
      refine ⟨_, rfl, ?_, HF.out⟩
      have := HOO.out
      rw [HE.out] at this ⊢
      exact this
end Go.Proofs.Ytbbhekmhffhpfaa
