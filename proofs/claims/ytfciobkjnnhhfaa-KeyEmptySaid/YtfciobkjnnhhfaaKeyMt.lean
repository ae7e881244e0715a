/- PACKAGE key: lower -/
import Derived.Test.YtfciobkjnnhhfaaKeyA
import Derived.Deep.RegionHeld3
import Derived.Deep.DeepCutAuto
namespace Go.Proofs.Ytfciobkjnnhhfaa
open Go.RowKit
set_option linter.unusedVariables false
set_option linter.unusedSimpArgs false

theorem run_max_mF {P : Program} {ts : Array TypeId} {ty : TypeId} (f g : ByteArray) (w : World) : (Builtin.max_ ts ty #[.string f, .string g]).run P w = .ok (.string (mF f g)) w := by
  cases h : Op.bytesLess f.toList g.toList <;> simp [Builtin.max_, Builtin.max2, Op.stringOp, asBool, mF, ls, h]
theorem run_min_mT {P : Program} {ts : Array TypeId} {ty : TypeId} (t u : ByteArray) (w : World) (h1 : t.toList.isEmpty = false) (h2 : u.toList.isEmpty = false) : (Builtin.min_ ts ty #[.string t, .string u]).run P w = .ok (.string (mT t u)) w := by
  have h1 : (t.toList == []) = false := by simpa using h1
  have h2 : (u.toList == []) = false := by simpa using h2
  cases h : ls u.toList t.toList with
  | true =>
    have e : mT t u = u := by unfold mT; rw [h1, h2, h]; rfl
    have k := ls_asymm h
    have hne : (t.toList == u.toList) = false := by rw [beq_eq_false_iff_ne]; intro e; rw [e, ls_irrefl] at h; cases h
    unfold ls at k
    rw [e]
    simp only [beq_eq_false_iff_ne, ne_eq] at hne
    simp [Builtin.min_, Builtin.min2, Op.stringOp, asBool, k, hne]
  | false =>
    have e : mT t u = t := by unfold mT; rw [h1, h2, h]; rfl
    rw [e]
    cases k : ls t.toList u.toList with
    | true => unfold ls at k; simp [Builtin.min_, Builtin.min2, Op.stringOp, asBool, k]
    | false =>
      have e2 := ls_total k h
      unfold ls at k
      simp [Builtin.min_, Builtin.min2, Op.stringOp, asBool, k, e2]
theorem key_lower (t u : ByteArray) (w : World) : Calls Try.prog 25 #[.string t, .string u] w fun e w' => e = .returned (.string (mT t u)) ∧ w = w' := by
  cases h1 : t.toList.isEmpty
  · cases h2 : u.toList.isEmpty
    · have c1 := fun ts ty W => run_min_mT (P := Try.prog) (ts := ts) (ty := ty) t u W h1 h2
      go_enter Try.func25, Try.ntmps25
      go_wp2
      go_ret
      exact ⟨rfl, rfl⟩
    · have e : mT t u = t := by
        have h1 : (t.toList == []) = false := by simpa using h1
        rw [mT, h1, List.isEmpty_iff.1 h2]; rfl
      rw [e]; clear e
      go_enter Try.func25, Try.ntmps25
      go_wp2
      go_ret
      exact ⟨rfl, rfl⟩
  · have e : mT t u = u := by rw [mT, List.isEmpty_iff.1 h1]; rfl
    rw [e]; clear e
    go_enter Try.func25, Try.ntmps25
    go_wp2
    go_ret
    exact ⟨rfl, rfl⟩
set_option maxHeartbeats 2000000 in
theorem key_meet (f t g u : ByteArray) (w : World) : Calls Try.prog 18 #[.agg #[.string f, .string t], .agg #[.string g, .string u]] w fun e w' => e = .returned (.tuple #[.agg #[.string (meetR f t g u).1, .string (meetR f t g u).2.1], .bool (meetR f t g u).2.2]) ∧ Fr [] w w' := by
  have HL : Hid (∀ W, Calls Try.prog 25 #[.string t, .string u] W fun e w' => e = .returned (.string (mT t u)) ∧ W = w') := Lib.hid (fun W => key_lower t u W)
  have HE : Hid (∀ W, Calls Try.prog 16 #[.agg #[.string (mF f g), .string (mT t u)]] W fun e w' => e = .returned (.bool (emptyB (mF f g).toList (mT t u).toList)) ∧ Fr [] W w') := Lib.hid (fun W => key_empty _ _ W)
  have c1 : ∀ ts ty W, (Builtin.max_ ts ty #[.string f, .string g]).run Try.prog W = .ok (.string (mF f g)) W := fun ts ty W => run_max_mF f g W
  obtain ⟨R, hR⟩ : ∃ R, R = meetR f t g u := ⟨_, rfl⟩
  rw [← hR]
  unfold meetR at hR
  obtain ⟨F, hF⟩ : ∃ F, F = mF f g := ⟨_, rfl⟩
  obtain ⟨T, hT⟩ : ∃ T, T = mT t u := ⟨_, rfl⟩
  rw [← hF, ← hT] at HE hR
  rw [← hF] at c1
  rw [← hT] at HL
  obtain ⟨E, hE⟩ : ∃ E, E = emptyB F.toList T.toList := ⟨_, rfl⟩
  rw [← hE] at HE hR
  replace hR := Lib.hid hR
  clear hE hF hT
  go_enter Try.func18, Try.ntmps18
  go_upto_region 1 with fail
  go_cut [6] (fun v wc => ∃ q, v = .pointer (some ⟨q, 0, none⟩) ∧ q = w.heap.size + 1 + 1 + 1 ∧ wc.heap[w.heap.size + 1 + 1]? = some (.cells #[.string ⟨#[]⟩, .string ⟨#[]⟩] 23 (0, 0)) ∧ wc.heap[q]? = some (.cells #[.string F, .string T] 23 (0, 0)) ∧ Fr [] w wc)
  case first =>
    go_region_held3 (fun w' => w'.cell? ⟨w.heap.size, 0, none⟩ = some (.string f) ∧ w'.cell? ⟨w.heap.size, 1, none⟩ = some (.string t) ∧ w'.cell? ⟨w.heap.size + 1, 0, none⟩ = some (.string g) ∧ w'.cell? ⟨w.heap.size + 1, 1, none⟩ = some (.string u)) (go_keep) (first | (go_at_call 25; refine (HL.out _).mono ?_; rintro e w1 ⟨rfl, rfl⟩))
    all_goals
      go_wp2_with fail
      go_meet
      obtain ⟨x1, x2⟩ := blk4 w (Obj.cells #[.string f, .string t] 23) (Obj.cells #[.string g, .string u] 23) (Obj.cells #[.string ⟨#[]⟩, .string ⟨#[]⟩] 23) (Obj.cells #[.string F, .string T] 23)
      exact ⟨_, rfl, rfl, x1, x2, (((((Fr.refl _ _).alloc _).alloc _).alloc _).alloc _).drew⟩
  case rest =>
    obtain ⟨q, rfl, hq, hb0, hb1, hfr⟩ := hcut
    have HB := Lib.hid hb0
    have HF := Lib.hid hfr
    have HS := Lib.hid hb1
    obtain ⟨a0, a1, _⟩ := cells2 HS.out
    clear hb0 hb1 hfr
    have HQ := Lib.hid hq
    have ne1 : ¬ q = w.heap.size + 1 + 1 := by omega
    have ne2 : ¬ w.heap.size + 1 + 1 = q := by omega
    clear hq
    cases E
    all_goals
      have hr := hR.out
      simp at hr
      subst hr
      go_wp2_with (go_at_call 16; refine (HE.out _).mono ?_; rintro e w1 ⟨rfl, h1⟩; have HB2 := h1.keep HB.out (by simp); have HS2 := h1.keep HS.out (by simp); obtain ⟨b0, b1, bf⟩ := cells2 HB2; obtain ⟨c0, c1, _⟩ := cells2 HS2; have bf0 := bf 0; have bf1 := bf 1; replace HF := Lib.hid (HF.out.trans h1 (by simp)); clear HB2 HS2 bf h1)
    · refine bodyPost_ret (v := .tuple #[.agg #[.string F, .string T], .bool true]) (by simp [results, Try.results18, go_sem, *]) rfl ⟨rfl, HF.out.set2 (by omega) _ _⟩
    · refine bodyPost_ret (v := .tuple #[.agg #[.string ⟨#[]⟩, .string ⟨#[]⟩], .bool false]) (by simp [results, Try.results18, go_sem, *]) rfl ⟨rfl, HF.out.set2 (by omega) _ _⟩
end Go.Proofs.Ytfciobkjnnhhfaa
