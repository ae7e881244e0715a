/- ARGUMENTS OF THE LAWS OF mem, opened. -/
import Derived.Test.YtpnoibgcnjbokaaMemAwake
import Derived.Test.YtpnoibgcnjbokaaLaw
namespace Go.Proofs.Ytpnoibgcnjbokaa
open Go.ChangeShapes Go.WideShapes Go.ChangeAt Go.RowKit Go.Deep
set_option linter.unusedVariables false
set_option linter.unusedSimpArgs false

/-- what is told of words that came in -/
def IsWords (w : World) (a : Option Addr) (len cap : Nat) : Prop :=
  len ≤ cap ∧ cap ≤ maxLen ∧ (0 < len → ∃ b off, a = some ⟨b, off, none⟩ ∧ b < w.heap.size ∧ ∀ i, i < len → ∃ z : Int, w.cell? ⟨b, off + i, none⟩ = some (.int .u64 z))
theorem wf_u8 {a : Int} (h : (Lit.int .u8 a).wf = true) : 0 ≤ a ∧ a ≤ 255 := by
  simpa [Lit.wf, IntKind.min, IntKind.max, IntKind.signed, IntKind.bits] using h
theorem MS.put_at (m : MS) (k x : Int) (h : m.has k = true) : (m.put k x).at k = x ∧ (m.put k x).has k = true := by
  obtain ⟨k, rfl, hk⟩ := MS.has_true h
  have h2 : (m.put k x).has k = true := by
    simp only [MS.has] at h ⊢
    rw [m.put_len]; exact h
  refine ⟨?_, h2⟩
  rw [MS.at, h2, if_pos rfl, MS.put, h, if_pos rfl]
  simp [hk]
theorem MS.has_of {m : MS} {k : Int} (h0 : 0 ≤ k) (h : k < m.c.length) : m.has k = true := by simp [MS.has, h0, h]
theorem MS.err_of {m : MS} {k : Int} (h : m.has k = true) : m.err k = 0 := by simp [MS.err, h]

theorem MS.grow_at (m : MS) (n k : Int) (h : m.has k = true) : (m.grow n).at k = m.at k ∧ (m.grow n).has k = true := by
  obtain ⟨k, rfl, hk⟩ := MS.has_true h
  unfold MS.grow
  split
  · have h2 : (MS.mk (m.c ++ List.replicate n.toNat 0) m.n).has k = true := MS.has_of (by omega) (by simp; omega)
    refine ⟨?_, h2⟩
    rw [MS.at, h2, if_pos rfl, MS.at, h, if_pos rfl]
    simp [List.getD_eq_getElem?_getD, List.getElem?_append_left hk]
  · exact ⟨rfl, h⟩
theorem MS.put_other (m : MS) (a k x : Int) (h : m.has k = true) (hne : a ≠ k) : (m.put a x).at k = m.at k ∧ (m.put a x).has k = true := by
  obtain ⟨k, rfl, hk⟩ := MS.has_true h
  have h2 : (m.put a x).has k = true := MS.has_of (by omega) (by rw [m.put_len]; omega)
  refine ⟨?_, h2⟩
  rw [MS.at, h2, if_pos rfl, MS.at, h, if_pos rfl, MS.put]
  split
  · rename_i ha
    obtain ⟨a, rfl, _⟩ := MS.has_true ha
    have : a ≠ k := by omega
    simp [List.getD_eq_getElem?_getD, List.getElem?_set, this]
  · rfl
theorem MS.ask_at (m : MS) (a k : Int) : (m.ask a).at k = m.at k ∧ (m.ask a).has k = m.has k := by
  unfold MS.ask
  split <;> exact ⟨rfl, rfl⟩
theorem MS.deed_other (m : MS) (kind a old x k : Int) (h : m.has k = true) (hne : a ≠ k) : (m.deed kind a old x).at k = m.at k ∧ (m.deed kind a old x).has k = true := by
  have h1 := m.ask_at a k
  unfold MS.deed
  split
  · exact ⟨h1.1, h1.2.trans h⟩
  split
  · exact m.put_other a k x h hne
  split
  · unfold MS.cas
    split
    · exact m.put_other a k x h hne
    · exact ⟨h1.1, h1.2.trans h⟩
  split
  · exact m.put_other a k _ h hne
  · exact m.grow_at _ k h

/-- zero cells, made in place -/
def zeros (n : Nat) : Array Value := (List.replicate n (Value.int .u64 0)).toArray
theorem make_words (w : World) (n : Nat) (hn : n ≤ 1000000) : (Instr.makeSlice 32 (.int .i64 n) (.int .i64 n)).run Try.prog w = .ok (.slice (some ⟨w.heap.size, 0, none⟩) n n) (w.alloc (.cells (zeros n) 23)) := by
  obtain ⟨i, hi, hz0, hz1, hz2⟩ := info_parts u64_info
  have h := run_make (P := Try.prog) w 32 23 i (.int .u64 0) u64_slice hi hz0 .i64 .i64 n n (by omega) (by omega) (by rw [hz2]; omega) (by omega)
  rw [h, hz1]
  have e : madeCells (Value.int .u64 0).cells ((n : Int).toNat * 1) = zeros n := by
    have : (Value.int .u64 0).cells = #[Value.int .u64 0] := rfl
    rw [this, Int.toNat_natCast, Nat.mul_one]
    apply Array.toList_inj.1
    rw [toList_madeCells_one]
    rfl
  rw [e]
  rfl
theorem own_zeros (w : World) (n B : Nat) (hB : w.heap.size = B) (hn : n ≤ 1000000) : (w.alloc (.cells (zeros n) 23)).ownsRow 0 23 1 (.slice (some ⟨B, 0, none⟩) n n) (List.replicate n (0 : Int)).length ((List.replicate n (0 : Int)).map (Value.int .u64)) := by
  subst hB
  rw [List.length_replicate]
  exact ⟨by simp, Or.inr ⟨_, n, _, rfl, Nat.zero_le _, new_block _ _, Nat.le_refl _, by unfold maxLen; omega, by simp [zeros], by simp [zeros]⟩⟩

theorem MS.cas_yes (m : MS) (k old x : Int) (h : m.has k = true) (ho : m.at k = old) : m.casB k old = true ∧ (m.cas k old x).at k = x ∧ (m.cas k old x).has k = true := by
  refine ⟨by rw [MS.casB, h, ho]; simp, ?_⟩
  rw [MS.cas, if_pos ho]
  exact m.put_at k x h
theorem MS.cas_no (m : MS) (k old x : Int) (h : m.has k = true) (ho : m.at k ≠ old) : m.casB k old = false ∧ (m.cas k old x).at k = m.at k ∧ (m.cas k old x).has k = true := by
  refine ⟨by rw [MS.casB, decide_eq_false ho]; simp, ?_⟩
  rw [MS.cas, if_neg ho]
  exact ⟨(m.ask_at k k).1, (m.ask_at k k).2.trans h⟩
theorem MS.cas_len (m : MS) (a old x : Int) : (m.cas a old x).c.length = m.c.length ∧ (m.cas a old x).n ≤ m.n + 1 := by
  unfold MS.cas
  split
  · exact ⟨m.put_len a x, m.put_n a x⟩
  · exact ⟨m.ask_len a, m.ask_n a⟩

theorem MS.put_cnt (m : MS) (a x : Int) : (m.put a x).n = m.n + if m.has a then 1 else 0 := by unfold MS.put; split <;> rfl
theorem MS.ask_cnt (m : MS) (a : Int) : (m.ask a).n = m.n + if m.has a then 1 else 0 := by unfold MS.ask; split <;> rfl
theorem MS.deed_cnt (m : MS) (kind a old x : Int) : (m.deed kind a old x).n = m.n + if m.has a ∧ 1 ≤ kind ∧ kind ≤ 4 then 1 else 0 := by
  have h1 := m.ask_cnt a
  have h2 := m.put_cnt a
  by_cases hh : m.has a = true
  · simp only [hh, if_true, true_and] at h1 h2 ⊢
    unfold MS.deed
    split
    · rw [h1, if_pos (by omega)]
    split
    · rw [h2, if_pos (by omega)]
    split
    · unfold MS.cas
      split
      · rw [h2, if_pos (by omega)]
      · rw [h1, if_pos (by omega)]
    split
    · rw [h2, if_pos (by omega)]
    · rw [if_neg (show ¬(1 ≤ kind ∧ kind ≤ 4) by omega)]
      exact (m.grow_len (if 40 < a then 40 else a) (by split <;> omega)).2.2
  · have hh : m.has a = false := by simpa using hh
    simp only [hh, Bool.false_eq_true, if_false, false_and, Nat.add_zero] at h1 h2 ⊢
    unfold MS.deed
    split
    · exact h1
    split
    · exact h2 x
    split
    · unfold MS.cas
      split
      · exact h2 x
      · exact h1
    split
    · exact h2 _
    · exact (m.grow_len (if 40 < a then 40 else a) (by split <;> omega)).2.2

theorem quiet_eq {P : Program} {f : FuncId} {args : Array Value} {w : World} {n : Nat} {v : Value}
    (h : Calls P f args (w.drewN n) fun e w' => e = .returned v ∧ w.drewN n = w') : Calls P f args (w.drewN n) fun e w'' => e = .returned v ∧ ∃ m, w'' = w.drewN m :=
  h.mono fun _ _ ⟨he, hm⟩ => ⟨he, n, hm.symm⟩

theorem deed_cells : Try.prog.cellsOf 25 = 4 := by kernel_rfl
section
variable {H : Type} {enc : TypeId × Value → H} {w : World} {base : Nat} {spare : Nat → Bool} {held : Bool}
theorem deed_ints {n : Nat} {cs : List Value} {x : DataW H × List MemPlace} (h : DataW.trod enc Try.prog w base spare held n 25 cs = some x) :
    ∃ kind a old v, cs[0]? = some (.int .i64 kind) ∧ cs[1]? = some (.int .i64 a) ∧ cs[2]? = some (.int .u64 old) ∧ cs[3]? = some (.int .u64 v) := by
  obtain ⟨z0, h0, _⟩ := field_int Try.underlying25 h 0 _ rfl (by kernel_rfl) (by rw [deed_cells]; decide) Try.underlying3
  obtain ⟨z1, h1, _⟩ := field_int Try.underlying25 h 1 _ rfl (by kernel_rfl) (by rw [deed_cells]; decide) Try.underlying3
  obtain ⟨z2, h2, _⟩ := field_int Try.underlying25 h 2 _ rfl (by kernel_rfl) (by rw [deed_cells]; decide) Try.underlying23
  obtain ⟨z3, h3, _⟩ := field_int Try.underlying25 h 3 _ rfl (by kernel_rfl) (by rw [deed_cells]; decide) Try.underlying23
  exact ⟨z0, z1, z2, z3, h0, h1, h2, h3⟩
theorem open_deeds {v : Value} {d : DataW H} {p : List MemPlace} {r : Reach} {b0 : Nat} (hv : Value.okWide Try.prog w r b0 22 v) (h : DataW.Trod enc Try.prog w base spare held 22 v d p) :
    ∃ a len cap, v = .slice a len cap ∧ IsDeeds w a len cap := by
  obtain ⟨a, len, cap, rfl⟩ := okWide_slice Try.underlying22 hv
  obtain ⟨fuel, hf⟩ := h
  obtain ⟨h1, h2, h3⟩ := slice_cells Try.underlying22 (by simpa [Value.cells] using hf)
  refine ⟨a, len, cap, rfl, h1, h2, fun hl => ?_⟩
  obtain ⟨b, off, ha, hb, hc⟩ := h3 hl (by rw [deed_cells]; decide)
  refine ⟨b, off, ha, hb, fun i hi => ?_⟩
  obtain ⟨cs, m, y, hy, _, hat⟩ := hc i hi
  obtain ⟨kind, x, old, u, c0, c1, c2, c3⟩ := deed_ints hy
  rw [deed_cells] at hat
  exact ⟨kind, x, old, u, (hat 0 (by decide)).trans c0, (hat 1 (by decide)).trans c1, (hat 2 (by decide)).trans c2, (hat 3 (by decide)).trans c3⟩
theorem open_deed {v : Value} {d : DataW H} {p : List MemPlace} {r : Reach} {b0 : Nat} (hv : Value.okWide Try.prog w r b0 25 v) (h : DataW.Trod enc Try.prog w base spare held 25 v d p) :
    ∃ kind a old x, v = .agg #[.int .i64 kind, .int .i64 a, .int .u64 old, .int .u64 x] := by
  obtain ⟨cs, rfl, hsz⟩ := okWide_struct Try.underlying25 hv
  obtain ⟨fuel, hf⟩ := h
  obtain ⟨kind, a, old, x, c0, c1, c2, c3⟩ := deed_ints hf
  rw [deed_cells] at hsz
  obtain ⟨l⟩ := cs
  match l, hsz with
  | [q0, q1, q2, q3], _ =>
    simp [Value.cells] at c0 c1 c2 c3
    subst c0 c1 c2 c3
    exact ⟨kind, a, old, x, rfl⟩
/-- a slice of words that came in -/
theorem open_words {v : Value} {d : DataW H} {p : List MemPlace} {r : Reach} {b0 : Nat} (hv : Value.okWide Try.prog w r b0 32 v) (h : DataW.Trod enc Try.prog w base spare held 32 v d p) :
    ∃ a len cap, v = .slice a len cap ∧ IsWords w a len cap := by
  obtain ⟨a, len, cap, rfl⟩ := okWide_slice Try.underlying32 hv
  obtain ⟨fuel, hf⟩ := h
  have hc1 : Try.prog.cellsOf 23 = 1 := by kernel_rfl
  obtain ⟨h1, h2, h3⟩ := slice_cells Try.underlying32 (by simpa [Value.cells] using hf)
  refine ⟨a, len, cap, rfl, h1, h2, fun hl => ?_⟩
  obtain ⟨b, off, ha, hb, hc⟩ := h3 hl (by rw [hc1]; decide)
  refine ⟨b, off, ha, hb, fun i hi => ?_⟩
  obtain ⟨cs, m, y, hy, hlen, hat⟩ := hc i hi
  obtain ⟨z, hz, _⟩ := DataW.trod_int Try.underlying23 hy
  rw [hc1] at hat
  refine ⟨z, ?_⟩
  have := hat 0 (by decide)
  rw [hz] at this
  simpa using this
theorem open_pair {v : Value} {d : DataW H} {p : List MemPlace} {r : Reach} {b0 : Nat} (hv : Value.okWide Try.prog w r b0 38 v) (h : DataW.Trod enc Try.prog w base spare held 38 v d p) :
    ∃ y0 y1, v = .agg #[.int .u64 y0, .int .u64 y1] := by
  have hc1 : Try.prog.cellsOf 23 = 1 := by kernel_rfl
  have hc2 : Try.prog.cellsOf 38 = 2 := by kernel_rfl
  have hv' : ∃ cs, v = .agg cs := by
    simp only [Value.okWide, Try.underlying38] at hv
    obtain ⟨cs, h1, _⟩ := hv
    exact ⟨cs, h1⟩
  obtain ⟨cs, rfl⟩ := hv'
  obtain ⟨fuel, hf⟩ := h
  obtain ⟨xs, m, _, _, hlen, hxs, hi⟩ := DataW.trod_array Try.underlying38 hf
  obtain ⟨l⟩ := cs
  have h0 := hi 0 (by decide)
  have h1 := hi 1 (by decide)
  rw [hc2] at hlen
  rw [hc1] at h0 h1
  match l, hlen with
  | [q0, q1], _ =>
    rw [List.getElem?_eq_getElem (by omega)] at h0 h1
    obtain ⟨z0, e0, _⟩ := DataW.trod_int Try.underlying23 h0
    obtain ⟨z1, e1, _⟩ := DataW.trod_int Try.underlying23 h1
    simp [Value.cells] at e0 e1
    subst e0 e1
    exact ⟨z0, z1, rfl⟩
end
end Go.Proofs.Ytpnoibgcnjbokaa
