/- impostref05.Map: its contract -/
import Derived.Test.YtmipllkgioakoaaIn
namespace Go.Proofs.Ytmipllkgioakoaa
open Go.RowKit
set_option linter.unusedVariables false
set_option linter.unusedSimpArgs false

theorem mapB_step {m : List Kv} {j : Nat} {x y : Kv} (hx : m[j]? = some x) (hy : m[j + 1]? = some y) : mapB (m.drop j) = (kl x.key y.key && mapB (m.drop (j + 1))) := by
  obtain ⟨h1, rfl⟩ := List.getElem?_eq_some_iff.1 hx
  obtain ⟨h2, rfl⟩ := List.getElem?_eq_some_iff.1 hy
  rw [List.drop_eq_getElem_cons h1, List.drop_eq_getElem_cons h2]; rfl
theorem mapB_short {m : List Kv} {j : Nat} (h : m.length ≤ j + 1) : mapB (m.drop j) = true := by
  have h2 : (m.drop j).length ≤ 1 := by rw [List.length_drop]; omega
  match hd : m.drop j, h2 with
  | [], _ => rfl
  | [x], _ => rfl
  | x :: y :: r, h2 => simp at h2
set_option maxHeartbeats 1000000 in
theorem rmap_any (av : Value) (m : List Kv) (w : World) (ha : KvIn w av m) : Calls Try.prog 8 #[av] w fun e w' => e = .returned (.bool (mapB m)) ∧ Fr [] w w' := by
  have HA := Lib.hid ha
  have c2 := @run_geq Try.prog
  obtain ⟨s1, c1, rfl, la, ma⟩ := ha.form
  unfold maxLen at ma
  clear ha
  go_enter Try.func8, Try.ntmps8
  go_wp2_with fail
  go_loopw [3] (fun v wr => ∃ j : Nat, v = .int .i64 ((j : Int) + 1) ∧ j ≤ m.length ∧ mapB m = mapB (m.drop j) ∧ Fr [] w wr) (fun v _ => m.length - (intOf v).toNat)
  case atStart => exact ⟨0, rfl, Nat.zero_le _, rfl, Fr.refl _ _⟩
  case round =>
    obtain ⟨j, rfl, hj, hs, hf⟩ := hrel
    have HS := Lib.hid hs
    have HF := Lib.hid hf
    clear hs hf
    by_cases h : j + 1 < m.length
    · obtain ⟨x, hx⟩ : ∃ x, m[j]? = some x := ⟨_, List.getElem?_eq_getElem (by omega)⟩
      obtain ⟨y, hy⟩ : ∃ y, m[j + 1]? = some y := ⟨_, List.getElem?_eq_getElem h⟩
      obtain ⟨g1, o1, d1, e1, _, l1, k1⟩ := KvIn.here (LIn.keep0 HA.out HF.out) (by omega)
      simp only [Value.slice.injEq] at e1
      obtain ⟨rfl, _, rfl⟩ := e1
      obtain ⟨p0, p1, p2⟩ := k1 j x hx
      obtain ⟨q0, q1, q2⟩ := k1 (j + 1) y hy
      have HSTEP := Lib.hid (mapB_step hx hy)
      have t1 : decide ((j : Int) + 1 < (m.length : Int)) = true := by simp; omega
      have w1 : IntKind.i64.wrap ((j : Int) + 1 - 1) = (j : Int) := by rw [IntWalk.i64_in _ ⟨by omega, by omega⟩]; omega
      have w2 : (j : Int) + 1 - 1 = (j : Int) := by omega
      have w3 : ((j : Int) + 1).toNat = j + 1 := by omega
      have b1 : (j : Int) + 1 < (m.length : Int) := by omega
      have b2 : (j : Int) < (m.length : Int) := by omega
      clear hx hy k1
      cases hE : kl x.key y.key
      all_goals
        have HE := Lib.hid hE
        have hE2 : Op.bytesLess x.key.toList y.key.toList = _ := hE
        clear hE
        go_wp2_with fail
        go_quiet (fail)
      · go_wp2
        go_ret
        refine ⟨?_, HF.out.drewN _⟩
        rw [HS.out, HSTEP.out, HE.out]; rfl
      · go_wp2
        go_roundw
        case rel =>
          refine ⟨j + 1, by go_num, by omega, ?_, HF.out.drewN _⟩
          rw [HS.out, HSTEP.out, HE.out]; rfl
        case measure => simp [intOf]; omega
    · have t1 : decide ((j : Int) + 1 < (m.length : Int)) = false := by simp; omega
      go_wp2
      go_ret
      refine ⟨?_, HF.out⟩
      rw [HS.out, mapB_short (by omega)]; rfl
end Go.Proofs.Ytmipllkgioakoaa
