/- PACKAGE txn: compared, changed: contracts (written by gen_txlst.py) -/
import Derived.Test.YtjclbgeclopheaaTxStr
namespace Go.Proofs.Ytjclbgeclopheaa
open Go.RowKit
set_option linter.unusedVariables false
set_option linter.unusedSimpArgs false

theorem st_slice : Try.prog.underlying 32 = some (.slice 9) := Try.underlying32
theorem drop_map {α β : Type} {f : α → β} {l : List α} {j : Nat} {x : α} (hx : l[j]? = some x) : (l.drop j).map f = f x :: (l.drop (j + 1)).map f := by
  obtain ⟨h1, rfl⟩ := List.getElem?_eq_some_iff.1 hx
  rw [List.drop_eq_getElem_cons h1, List.map_cons]
set_option maxHeartbeats 1000000 in
theorem tx_changed (lv : Value) (l : List Od) (w : World) (hl : OdIn w lv l) (bl : l.length ≤ many) : Calls Try.prog 27 #[lv] w fun e w' => ∃ v, e = .returned v ∧ OutAt stC 9 1 w w' v (l.map Od.key) ∧ Fr [] w w' := by
  unfold many at bl
  obtain ⟨s1, c1, rfl, la, ma⟩ := LIn.form hl
  unfold maxLen at ma
  have HL := Lib.hid hl
  clear hl
  go_enter Try.func27, Try.ntmps27
  go_wp2_with fail
  go_loopw [3, 8] (fun v i wr => ∃ (j : Nat) (o : List ByteArray), i = .int .i64 j ∧ j ≤ l.length ∧ OutAt stC 9 1 w wr v o ∧ o ++ (l.drop j).map Od.key = l.map Od.key ∧ o.length ≤ j ∧ Fr [] w wr) (fun _ i _ => l.length - (intOf i).toNat)
  case atStart => exact ⟨0, [], rfl, Nat.zero_le _, OutAt.nil _ _, rfl, Nat.zero_le _, Fr.refl _ _⟩
  case round =>
    obtain ⟨j, o, rfl, hj, ho, hs, hol, hf⟩ := hrel
    have HS := Lib.hid hs
    have HO := Lib.hid ho
    have HF := Lib.hid hf
    clear ho hf hs
    by_cases h : j < l.length
    · obtain ⟨x, hx⟩ : ∃ x, l[j]? = some x := ⟨_, List.getElem?_eq_getElem h⟩
      obtain ⟨g, off, d1, e1, _, l1, k1⟩ := OdIn.here (LIn.keep0 HL.out HF.out) (by omega)
      simp only [Value.slice.injEq] at e1
      obtain ⟨rfl, _, rfl⟩ := e1
      obtain ⟨p0, p1, p2⟩ := k1 j x hx
      have HX := Lib.hid hx
      have t1 : decide (j < l.length) = true := by simpa using h
      clear hx k1
      go_wp2_with (at_builtin; refine wpList_append_any rfl (.tmp 12) (.tmp 15) 32 9 (.string ⟨#[]⟩) 1 16 rfl st_slice str_info rfl (by decide) _ o.length (allC stC o) rfl (HO.out.lies.keep0 (((Fr.refl [] _).alloc _).alloc _)) _ 1 (stC x.key) rfl (lies_row (wr.alloc (.cells #[.string x.key, .string x.val, .bool x.del] 52)) 9 (stC x.key) rfl _ (by simp)) (stC_one x.key) (by unfold maxLen; omega) (by omega) ?app)
      case app =>
      intro v' w' h1 h2 h3
      have ha := HO.out.keep (((Fr.refl [] wr).alloc (.cells #[.string x.key, .string x.val, .bool x.del] 52)).alloc (.cells (stC x.key).toArray 9))
      have HA := Lib.hid (OutAt.app ha (by have := HF.out.size; simp; omega) (xs := [x.key]) (by rw [allC_one]; exact h1) rfl h3)
      have HG := Lib.hid (OutAt.fr ha ((HF.out.alloc _).alloc _) h2)
      clear h1 h2 h3 ha
      go_wp2_with fail
      go_roundw
      case rel => exact ⟨j + 1, o ++ [x.key], by go_num, by omega, HA.out, by have := HS.out; rw [drop_map HX.out] at this; rw [← this, List.append_assoc]; rfl, by simp; omega, HG.out⟩
      case measure => simp [intOf]; omega
    · have t1 : decide (j < l.length) = false := by simpa using h
      have hj2 : j = l.length := by omega
      subst hj2
      have HO2 : Hid (OutAt stC 9 1 w wr _ (l.map Od.key)) := Lib.hid (by have := HS.out; rw [List.drop_length, List.map_nil, List.append_nil] at this; rw [← this]; exact HO.out)
      go_wp2
      go_ret
      exact ⟨_, rfl, HO2.out, HF.out⟩
set_option maxHeartbeats 1000000 in
theorem tx_compared (lv : Value) (l : List Cm) (w : World) (hl : CmIn w lv l) (bl : l.length ≤ many) : Calls Try.prog 26 #[lv] w fun e w' => ∃ v, e = .returned v ∧ OutAt stC 9 1 w w' v (l.map Cm.key) ∧ Fr [] w w' := by
  unfold many at bl
  obtain ⟨s1, c1, rfl, la, ma⟩ := LIn.form hl
  unfold maxLen at ma
  have HL := Lib.hid hl
  clear hl
  go_enter Try.func26, Try.ntmps26
  go_wp2_with fail
  go_loopw [3, 8] (fun v i wr => ∃ (j : Nat) (o : List ByteArray), i = .int .i64 j ∧ j ≤ l.length ∧ OutAt stC 9 1 w wr v o ∧ o ++ (l.drop j).map Cm.key = l.map Cm.key ∧ o.length ≤ j ∧ Fr [] w wr) (fun _ i _ => l.length - (intOf i).toNat)
  case atStart => exact ⟨0, [], rfl, Nat.zero_le _, OutAt.nil _ _, rfl, Nat.zero_le _, Fr.refl _ _⟩
  case round =>
    obtain ⟨j, o, rfl, hj, ho, hs, hol, hf⟩ := hrel
    have HS := Lib.hid hs
    have HO := Lib.hid ho
    have HF := Lib.hid hf
    clear ho hf hs
    by_cases h : j < l.length
    · obtain ⟨x, hx⟩ : ∃ x, l[j]? = some x := ⟨_, List.getElem?_eq_getElem h⟩
      obtain ⟨g, off, d1, e1, _, l1, k1⟩ := CmIn.here (LIn.keep0 HL.out HF.out) (by omega)
      simp only [Value.slice.injEq] at e1
      obtain ⟨rfl, _, rfl⟩ := e1
      obtain ⟨p0, p1, p2, p3⟩ := k1 j x hx
      have HX := Lib.hid hx
      have t1 : decide (j < l.length) = true := by simpa using h
      clear hx k1
      go_wp2_with (at_builtin; refine wpList_append_any rfl (.tmp 12) (.tmp 15) 32 9 (.string ⟨#[]⟩) 1 16 rfl st_slice str_info rfl (by decide) _ o.length (allC stC o) rfl (HO.out.lies.keep0 (((Fr.refl [] _).alloc _).alloc _)) _ 1 (stC x.key) rfl (lies_row (wr.alloc (.cells #[.int .i64 x.kind, .string x.key, .string x.val, .int .i64 x.rev] 61)) 9 (stC x.key) rfl _ (by simp)) (stC_one x.key) (by unfold maxLen; omega) (by omega) ?app)
      case app =>
      intro v' w' h1 h2 h3
      have ha := HO.out.keep (((Fr.refl [] wr).alloc (.cells #[.int .i64 x.kind, .string x.key, .string x.val, .int .i64 x.rev] 61)).alloc (.cells (stC x.key).toArray 9))
      have HA := Lib.hid (OutAt.app ha (by have := HF.out.size; simp; omega) (xs := [x.key]) (by rw [allC_one]; exact h1) rfl h3)
      have HG := Lib.hid (OutAt.fr ha ((HF.out.alloc _).alloc _) h2)
      clear h1 h2 h3 ha
      go_wp2_with fail
      go_roundw
      case rel => exact ⟨j + 1, o ++ [x.key], by go_num, by omega, HA.out, by have := HS.out; rw [drop_map HX.out] at this; rw [← this, List.append_assoc]; rfl, by simp; omega, HG.out⟩
      case measure => simp [intOf]; omega
    · have t1 : decide (j < l.length) = false := by simpa using h
      have hj2 : j = l.length := by omega
      subst hj2
      have HO2 : Hid (OutAt stC 9 1 w wr _ (l.map Cm.key)) := Lib.hid (by have := HS.out; rw [List.drop_length, List.map_nil, List.append_nil] at this; rw [← this]; exact HO.out)
      go_wp2
      go_ret
      exact ⟨_, rfl, HO2.out, HF.out⟩
end Go.Proofs.Ytjclbgeclopheaa
