/- ARGUMENTS OF THE LAWS OF word: heads, and pairs of uint32, opened; what is told there and back, plainly -/
import Derived.Test.YtbfgofalgjamaaaWd
import Derived.Test.YtbfgofalgjamaaaLaw
namespace Go.Proofs.Ytbfgofalgjamaaa
open Go.ChangeShapes Go.WideShapes Go.ChangeAt Go.RowKit Go.Deep
set_option linter.unusedVariables false
set_option linter.unusedSimpArgs false

/-- what an int is -/
abbrev IsI (n : Int) : Prop := -9223372036854775808 ≤ n ∧ n < 9223372036854775808
theorem isI_of {n : Int} (h : (Lit.int .i64 n).wf = true) : IsI n := by
  have m1 : IntKind.i64.min = -9223372036854775808 := by decide
  have m2 : IntKind.i64.max = 9223372036854775807 := by decide
  have h' : IntKind.i64.min ≤ n ∧ n ≤ IntKind.i64.max := by simpa [Lit.wf] using h
  omega
theorem isU_of {n : Int} (h : (Lit.int .u64 n).wf = true) : IsU n := by
  have m1 : IntKind.u64.min = 0 := by decide
  have m2 : IntKind.u64.max = 18446744073709551615 := by decide
  have h' : IntKind.u64.min ≤ n ∧ n ≤ IntKind.u64.max := by simpa [Lit.wf] using h
  omega
theorem is8_of {n : Int} (h : (Lit.int .u8 n).wf = true) : 0 ≤ n ∧ n < 256 := by
  have m1 : IntKind.u8.min = 0 := by decide
  have m2 : IntKind.u8.max = 255 := by decide
  have h' : IntKind.u8.min ≤ n ∧ n ≤ IntKind.u8.max := by simpa [Lit.wf] using h
  omega
theorem is32_of {n : Int} (h : (Lit.int .u32 n).wf = true) : 0 ≤ n ∧ n < 4294967296 := by
  have m1 : IntKind.u32.min = 0 := by decide
  have m2 : IntKind.u32.max = 4294967295 := by decide
  have h' : IntKind.u32.min ≤ n ∧ n ≤ IntKind.u32.max := by simpa [Lit.wf] using h
  omega
theorem head_plain {s r h : Int} (m : mayW s r h = true) : (0 ≤ s ∧ s < 16777216 ∧ 0 ≤ h ∧ h ≤ r ∧ r < 1048576) ∧ headW s r h = s * 1099511627776 + r * 1048576 + h := by
  have m := of_decide_eq_true m
  refine ⟨m, ?_⟩
  unfold headW
  rw [Int.emod_eq_of_lt (a := r) (by omega) (by omega), Int.emod_eq_of_lt (a := h) (by omega) (by omega)]
  exact Int.emod_eq_of_lt (by omega) (by omega)
theorem open_head {s r h : Int} (m : mayW s r h = true) : hdV (headW s r h / 1099511627776) (headW s r h / 1048576 % 1048576) (headW s r h % 1048576) = hdV s r h := by
  obtain ⟨m, e⟩ := head_plain m
  generalize headW s r h = x at e
  have e1 : x / 1099511627776 = s := by omega
  have e2 : x / 1048576 % 1048576 = r := by omega
  have e3 : x % 1048576 = h := by omega
  rw [e1, e2, e3]
theorem head_open {n : Int} (h : IsU n) : headW (n / 1099511627776) (n / 1048576 % 1048576) (n % 1048576) = n := by unfold headW; omega
theorem may_open {n : Int} (h : IsU n) (hz : ¬ n / 1048576 % 1048576 < n % 1048576) : mayW (n / 1099511627776) (n / 1048576 % 1048576) (n % 1048576) = true := by
  unfold mayW
  rw [decide_eq_true_iff]
  omega
theorem rises {s r h s' r' h' : Int} (m : mayW s r h = true) (m' : mayW s' r' h' = true) :
    (headW s r h < headW s' r' h' ↔ s < s' ∨ s = s' ∧ (r < r' ∨ r = r' ∧ h < h')) ∧ (headW s r h = headW s' r' h' ↔ s = s' ∧ r = r' ∧ h = h') := by
  obtain ⟨m, e⟩ := head_plain m
  obtain ⟨m', e'⟩ := head_plain m'
  generalize headW s r h = x at e
  generalize headW s' r' h' = y at e'
  rcases Int.lt_trichotomy s s' with q | q | q <;> rcases Int.lt_trichotomy r r' with q' | q' | q' <;> omega
theorem neq_hd (a b c : Int) (X : World) : (binOp .neq 28 (.agg #[.int .i64 a, .int .i64 b, .int .i64 c]) (.agg #[.int .i64 a, .int .i64 b, .int .i64 c])).run Try.prog X = .ok (.bool false) X := by
  simp [go_sem]
theorem eq_hd2 (a b c a' b' c' : Int) (X : World) : (binOp .eql 28 (.agg #[.int .i64 a, .int .i64 b, .int .i64 c]) (.agg #[.int .i64 a', .int .i64 b', .int .i64 c'])).run Try.prog X = .ok (.bool (decide (a = a' ∧ b = b' ∧ c = c'))) X := by
  by_cases h1 : a = a' <;> by_cases h2 : b = b' <;> by_cases h3 : c = c' <;> simp [go_sem, *]
theorem ones {a i b j : Int} (ha : (0 ≤ a ∧ a < 4294967296) ∧ 0 ≤ i ∧ i < 4294967296) (hb : (0 ≤ b ∧ b < 4294967296) ∧ 0 ≤ j ∧ j < 4294967296) :
    (packW (a % 4) i = packW (b % 4) j ↔ a % 4 = b % 4 ∧ i = j) ∧ packW (a % 4) i % 4 = a % 4 := by
  unfold packW; omega
section
variable {H : Type} {enc : TypeId × Value → H} {w : World} {base : Nat} {spare : Nat → Bool} {held : Bool}
theorem hd_cells : Try.prog.cellsOf 28 = 3 := by kernel_rfl
set_option maxRecDepth 100000 in
theorem open_hd {v : Value} {d : DataW H} {p : List MemPlace} {r : Reach} {b0 : Nat} (hv : Value.okWide Try.prog w r b0 28 v) (h : DataW.Trod enc Try.prog w base spare held 28 v d p) :
    ∃ x y z : Int, v = hdV x y z ∧ (IsI x ∧ IsI y ∧ IsI z) := by
  obtain ⟨c0, c1, c2, y0, y1, y2, m, rfl, rfl, rfl, h0, h1, h2⟩ := Joins.open_agg3 Try.underlying28 (by kernel_rfl) hd_cells hv h
  obtain ⟨f, e0, _, w0⟩ := DataW.trod_int Try.underlying3 h0
  obtain ⟨t, e1, _, w1⟩ := DataW.trod_int Try.underlying3 h1
  obtain ⟨u, e2, _, w2⟩ := DataW.trod_int Try.underlying3 h2
  simp only [List.cons.injEq, and_true] at e0 e1 e2
  subst e0 e1 e2
  exact ⟨f, t, u, rfl, isI_of w0, isI_of w1, isI_of w2⟩
theorem ar2 {α : Type} {cs : Array α} (h : cs.size = 2) : ∃ c0 c1, cs = #[c0, c1] := by
  obtain ⟨l⟩ := cs
  match l, h with
  | [a, b], _ => exact ⟨a, b, rfl⟩
set_option maxRecDepth 100000 in
theorem open_pair {v : Value} {d : DataW H} {p : List MemPlace} {r : Reach} {b0 : Nat} (hv : Value.okWide Try.prog w r b0 36 v) (h : DataW.Trod enc Try.prog w base spare held 36 v d p) :
    ∃ x y : Int, v = .agg #[.int .u32 x, .int .u32 y] ∧ (0 ≤ x ∧ x < 4294967296) ∧ (0 ≤ y ∧ y < 4294967296) := by
  have hc2 : Try.prog.cellsOf 36 = 2 := by kernel_rfl
  have hc1 : Try.prog.cellsOf 33 = 1 := by kernel_rfl
  have hform : ∃ cs, v = .agg cs ∧ cs.size = Try.prog.cellsOf 36 := by
    have ha : Try.prog.underlying 36 = some (.array 2 33) := Try.underlying36
    simp only [Value.okWide, ha] at hv
    obtain ⟨cs, h1, h2, _⟩ := hv
    exact ⟨cs, h1, h2⟩
  obtain ⟨cs, rfl, hsz⟩ := hform
  obtain ⟨c0, c1, rfl⟩ := ar2 (hsz.trans hc2)
  obtain ⟨fuel, hf⟩ := h
  obtain ⟨xs, m, _, _, _, hl, hi⟩ := DataW.trod_array Try.underlying36 hf
  have h0 := hi 0 (by decide)
  have h1 := hi 1 (by decide)
  have x0 : xs[0]? = some (xs[0]'(by omega)) := List.getElem?_eq_getElem _
  have x1 : xs[1]? = some (xs[1]'(by omega)) := List.getElem?_eq_getElem _
  rw [x0, hc1] at h0
  rw [x1, hc1] at h1
  obtain ⟨a, e0, _, w0⟩ := DataW.trod_int Try.underlying33 (by simpa [Value.cells] using h0)
  obtain ⟨b, e1, _, w1⟩ := DataW.trod_int Try.underlying33 (by simpa [Value.cells] using h1)
  simp only [List.cons.injEq, and_true] at e0 e1
  subst e0 e1
  exact ⟨a, b, rfl, is32_of w0, is32_of w1⟩
end
end Go.Proofs.Ytbfgofalgjamaaa
