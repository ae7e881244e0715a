/- THE DOCUMENT's hist (impostref06): Map, Compact: contracts -/
import Derived.Test.YtpahencocbahgaaHsCnt
namespace Go.Proofs.Ytpahencocbahgaa
open Go.RowKit
set_option linter.unusedVariables false
set_option linter.unusedSimpArgs false

theorem mapN_ge {rows : List (List Ev)} {n : Nat} (h : rows.length ≤ n) : mapN rows n = mapN rows rows.length := by
  unfold mapN; rw [List.take_of_length_le h, List.take_length]
theorem mapN_len' (rows : List (List Ev)) (n : Nat) {b : Nat} (h : rows.flatten.length ≤ b) : (mapN rows n).length ≤ b := Nat.le_trans (mapN_len rows n) h
theorem row_len {rows : List (List Ev)} {r : List Ev} (h : r ∈ rows) : r.length ≤ rows.flatten.length := by
  induction rows with
  | nil => cases h
  | cons x s ih =>
    rw [List.flatten_cons, List.length_append]
    rcases List.mem_cons.1 h with rfl | h
    · omega
    · have := ih h; omega
set_option maxHeartbeats 1000000 in
theorem rmap6_any (S : List Nat) (rv : Value) (rows : List (List Ev)) (hor rev : Int) (w : World) (hr : RowsF S w rv rows) (b1 : rows.flatten.length ≤ many) (b2 : rows.length ≤ many) :
    Calls Try.prog 42 #[.agg #[rv, .int .i64 hor], .int .i64 rev] w fun e w' => ∃ v, e = .returned v ∧ KvIn w' v (mapN rows rev.toNat) ∧ Fr [] w w' := by
  have HB1 := Lib.hid b1
  unfold many at b2
  obtain ⟨s1, c1, rfl, la, ma⟩ := hr.form
  unfold maxLen at ma
  have HR := Lib.hid hr
  obtain ⟨wb, hwb⟩ : ∃ wb, wb = w.alloc (Obj.cells #[.slice s1 rows.length c1, .int .i64 hor] 36) := ⟨_, rfl⟩
  have HWB := Lib.hid hwb
  have HX : Hid (wb.heap[w.heap.size]? = some (.cells #[.slice s1 rows.length c1, .int .i64 hor] 36 (0, 0))) := Lib.hid (by rw [hwb]; exact new_block w _)
  have HF0 : Hid (Fr [] w wb) := Lib.hid (by rw [hwb]; exact (Fr.refl [] w).alloc _)
  clear hwb hr b1
  go_enter Try.func42, Try.ntmps42
  go_wp2_with fail
  rw [← HWB.out]
  go_loopw [5, 6] (fun v i wr => ∃ (j : Nat), i = .int .i64 j ∧ j ≤ rows.length ∧ j ≤ rev.toNat ∧ KvIn wr v (mapN rows j) ∧ Fr [] wb wr) (fun _ i _ => rows.length - (intOf i).toNat)
  case atStart => exact ⟨0, rfl, Nat.zero_le _, Nat.zero_le _, LIn.nil _, Fr.refl _ _⟩
  case round =>
    obtain ⟨j, rfl, hj, hj2, ho, hf⟩ := hrel
    have HO := Lib.hid ho
    have HF := Lib.hid hf
    have HFW := Lib.hid (HF0.out.trans hf (by simp))
    clear ho hf
    obtain ⟨b0, b1, _⟩ := cells2 (HF.out.keep HX.out (by simp))
    by_cases h1 : (j : Int) < rev
    · have t1 : decide ((j : Int) < rev) = true := by simpa using h1
      by_cases h2 : j < rows.length
      · have t2 : decide ((j : Int) < (rows.length : Int)) = true := by simp; omega
        obtain ⟨r, hrj⟩ : ∃ r, rows[j]? = some r := ⟨_, List.getElem?_eq_getElem h2⟩
        obtain ⟨g, off, d1, e1, hg, k1⟩ := (HR.out.keep0 HFW.out).here (by omega)
        cases e1
        obtain ⟨u, hu, hur⟩ := k1 j r hrj
        have HU := Lib.hid hur.lin
        have HSTEP := Lib.hid (mapN_step hrj)
        have HRL := Lib.hid (row_len (List.mem_of_getElem? hrj))
        obtain ⟨su, cu, rfl, _, _⟩ := hur.form
        clear hrj k1 hur
        go_wp2_with (go_at_call 49; refine (rfold_any _ _ (mapN rows j) r _ HO.out HU.out (mapN_len' _ _ HB1.out) (Nat.le_trans HRL.out HB1.out)).mono ?_; rintro e w1 ⟨v1, rfl, h1, h2⟩; have HO1 := Lib.hid h1; have HF1 := Lib.hid (HF.out.trans h2 (by simp)); clear h1 h2)
        go_roundw
        case rel =>
          refine ⟨j + 1, by go_num, by omega, by omega, ?_, HF1.out⟩
          rw [HSTEP.out]; exact HO1.out
        case measure => simp [intOf]; omega
      · have t2 : decide ((j : Int) < (rows.length : Int)) = false := by simp; omega
        have he : j = rows.length := by omega
        have HE : Hid (mapN rows rev.toNat = mapN rows j) := Lib.hid (by rw [he]; exact mapN_ge (by omega))
        go_wp2_with fail
        go_ret
        exact ⟨_, rfl, by rw [HE.out]; exact HO.out, HFW.out⟩
    · have t1 : decide ((j : Int) < rev) = false := by simpa using h1
      have he : j = rev.toNat := by omega
      have HE : Hid (mapN rows rev.toNat = mapN rows j) := Lib.hid (by rw [he])
      go_wp2_with fail
      go_ret
      exact ⟨_, rfl, by rw [HE.out]; exact HO.out, HFW.out⟩
/-- what Compact tells -/
def comR (len hor rev : Int) : Int × Int := if rev < 0 then (hor, 1) else if len < rev then (hor, 6) else (max hor rev, 0)
theorem rcompact_any (s1 : Option Addr) (n c1 : Nat) (hor rev : Int) (w : World) :
    Calls Try.prog 31 #[.agg #[.slice s1 n c1, .int .i64 hor], .int .i64 rev] w fun e w' => e = .returned (.tuple #[.agg #[.slice s1 n c1, .int .i64 (comR n hor rev).1], .int .i64 (comR n hor rev).2]) ∧ Fr [] w w' := by
  by_cases h1 : rev < 0
  · have t1 : decide (rev < 0) = true := by simpa using h1
    have HC : Hid (comR n hor rev = (hor, 1)) := Lib.hid (by unfold comR; rw [if_pos h1])
    go_enter Try.func31, Try.ntmps31
    go_wp2_with fail
    refine bodyPost_ret (v := .tuple #[.agg #[.slice s1 n c1, .int .i64 hor], .int .i64 1]) (by simp [results, Try.results31, go_sem, *]) rfl ⟨?_, ?_⟩
    · rw [HC.out]
    · exact ((Fr.refl [] w).alloc _).alloc _
  · have t1 : decide (rev < 0) = false := by simpa using h1
    by_cases h2 : (n : Int) < rev
    · have t2 : decide ((n : Int) < rev) = true := by simpa using h2
      have HC : Hid (comR n hor rev = (hor, 6)) := Lib.hid (by unfold comR; rw [if_neg h1, if_pos h2])
      go_enter Try.func31, Try.ntmps31
      go_wp2_with fail
      refine bodyPost_ret (v := .tuple #[.agg #[.slice s1 n c1, .int .i64 hor], .int .i64 6]) (by simp [results, Try.results31, go_sem, *]) rfl ⟨?_, ?_⟩
      · rw [HC.out]
      · exact ((Fr.refl [] w).alloc _).alloc _
    · have t2 : decide ((n : Int) < rev) = false := by simpa using h2
      by_cases h3 : hor < rev
      · have t3 := h3
        have HC : Hid (comR n hor rev = (rev, 0)) := Lib.hid (by unfold comR; rw [if_neg h1, if_neg h2, show max hor rev = rev by omega])
        go_enter Try.func31, Try.ntmps31
        go_wp2_with fail
        refine bodyPost_ret (v := .tuple #[.agg #[.slice s1 n c1, .int .i64 rev], .int .i64 0]) (by simp [results, Try.results31, go_sem, *]) rfl ⟨?_, ?_⟩
        · rw [HC.out]
        · exact ((Fr.refl [] w).alloc _).alloc _
      · have t3 : rev ≤ hor := by omega
        have HC : Hid (comR n hor rev = (hor, 0)) := Lib.hid (by unfold comR; rw [if_neg h1, if_neg h2, show max hor rev = hor by omega])
        go_enter Try.func31, Try.ntmps31
        go_wp2_with fail
        refine bodyPost_ret (v := .tuple #[.agg #[.slice s1 n c1, .int .i64 hor], .int .i64 0]) (by simp [results, Try.results31, go_sem, *]) rfl ⟨?_, ?_⟩
        · rw [HC.out]
        · exact ((Fr.refl [] w).alloc _).alloc _
end Go.Proofs.Ytpahencocbahgaa
