/- ARGUMENTS OF THE LAWS OF slab, opened -/
import Derived.Test.YtkampbbginamhaaSlabOwn
import Derived.Test.YtkampbbginamhaaLaw
namespace Go.Proofs.Ytkampbbginamhaa
open Go.ChangeShapes Go.WideShapes Go.ChangeAt Go.RowKit Go.Deep
set_option linter.unusedVariables false
set_option linter.unusedSimpArgs false

theorem wf_word {a : Int} (h : (Lit.int .u64 a).wf = true) : IsW a := by
  have : 0 ≤ a ∧ a ≤ 18446744073709551615 := by simpa [Lit.wf, IntKind.min, IntKind.max, IntKind.signed, IntKind.bits] using h
  unfold IsW; omega
theorem wf_byte {a : Int} (h : (Lit.int .u8 a).wf = true) : 0 ≤ a ∧ a ≤ 255 := by
  simpa [Lit.wf, IntKind.min, IntKind.max, IntKind.signed, IntKind.bits] using h

/-- deeds that came in -/
def SDeeds (w : World) (a : Option Addr) (len cap : Nat) : Prop :=
  len ≤ cap ∧ cap ≤ maxLen ∧ (0 < len → ∃ b off, a = some ⟨b, off, none⟩ ∧ b < w.heap.size ∧ ∀ i, i < len → ∃ kind x n v raw : Int, 0 ≤ n ∧ n ≤ 255 ∧ IsW raw ∧ w.cell? ⟨b, off + i * 5, none⟩ = some (.int .i64 kind) ∧ w.cell? ⟨b, off + i * 5 + 1, none⟩ = some (.int .i64 x) ∧
    w.cell? ⟨b, off + i * 5 + 2, none⟩ = some (.int .u8 n) ∧ w.cell? ⟨b, off + i * 5 + 3, none⟩ = some (.int .u64 v) ∧ w.cell? ⟨b, off + i * 5 + 4, none⟩ = some (.int .u64 raw))
theorem SDeeds.keep {w w' : World} {a : Option Addr} {len cap : Nat} (h : SDeeds w a len cap) (hf : Fr [] w w') : SDeeds w' a len cap := by
  obtain ⟨h1, h2, h3⟩ := h
  refine ⟨h1, h2, fun hl => ?_⟩
  obtain ⟨b, off, ha, hb, hc⟩ := h3 hl
  refine ⟨b, off, ha, Nat.lt_of_lt_of_le hb hf.size, fun i hi => ?_⟩
  obtain ⟨kind, x, n, v, raw, n0, n1, hr, c0, c1, c2, c3, c4⟩ := hc i hi
  exact ⟨kind, x, n, v, raw, n0, n1, hr, hf.cell c0 (by simp), hf.cell c1 (by simp), hf.cell c2 (by simp), hf.cell c3 (by simp), hf.cell c4 (by simp)⟩
theorem sdeed_cells : Try.prog.cellsOf 40 = 5 := by kernel_rfl
section
variable {H : Type} {enc : TypeId × Value → H} {w : World} {base : Nat} {spare : Nat → Bool} {held : Bool}
theorem sdeed_ints {n : Nat} {cs : List Value} {x : DataW H × List MemPlace} (h : DataW.trod enc Try.prog w base spare held n 40 cs = some x) :
    ∃ kind a k v raw : Int, 0 ≤ k ∧ k ≤ 255 ∧ IsW raw ∧ cs[0]? = some (.int .i64 kind) ∧ cs[1]? = some (.int .i64 a) ∧ cs[2]? = some (.int .u8 k) ∧ cs[3]? = some (.int .u64 v) ∧ cs[4]? = some (.int .u64 raw) := by
  obtain ⟨z0, h0, _⟩ := field_int Try.underlying40 h 0 _ rfl (by kernel_rfl) (by rw [sdeed_cells]; decide) Try.underlying3
  obtain ⟨z1, h1, _⟩ := field_int Try.underlying40 h 1 _ rfl (by kernel_rfl) (by rw [sdeed_cells]; decide) Try.underlying3
  obtain ⟨z2, h2, w2⟩ := field_int Try.underlying40 h 2 _ rfl (by kernel_rfl) (by rw [sdeed_cells]; decide) Try.underlying5
  obtain ⟨z3, h3, _⟩ := field_int Try.underlying40 h 3 _ rfl (by kernel_rfl) (by rw [sdeed_cells]; decide) Try.underlying38
  obtain ⟨z4, h4, w4⟩ := field_int Try.underlying40 h 4 _ rfl (by kernel_rfl) (by rw [sdeed_cells]; decide) Try.underlying38
  exact ⟨z0, z1, z2, z3, z4, (wf_byte w2).1, (wf_byte w2).2, wf_word w4, h0, h1, h2, h3, h4⟩
theorem open_sdeeds {v : Value} {d : DataW H} {p : List MemPlace} {r : Reach} {b0 : Nat} (hv : Value.okWide Try.prog w r b0 22 v) (h : DataW.Trod enc Try.prog w base spare held 22 v d p) :
    ∃ a len cap, v = .slice a len cap ∧ SDeeds w a len cap := by
  obtain ⟨a, len, cap, rfl⟩ := okWide_slice Try.underlying22 hv
  obtain ⟨fuel, hf⟩ := h
  obtain ⟨h1, h2, h3⟩ := slice_cells Try.underlying22 (by simpa [Value.cells] using hf)
  refine ⟨a, len, cap, rfl, h1, h2, fun hl => ?_⟩
  obtain ⟨b, off, ha, hb, hc⟩ := h3 hl (by rw [sdeed_cells]; decide)
  refine ⟨b, off, ha, hb, fun i hi => ?_⟩
  obtain ⟨cs, m, y, hy, _, hat⟩ := hc i hi
  obtain ⟨kind, x, n, u, raw, n0, n1, hw, c0, c1, c2, c3, c4⟩ := sdeed_ints hy
  rw [sdeed_cells] at hat
  exact ⟨kind, x, n, u, raw, n0, n1, hw, (hat 0 (by decide)).trans c0, (hat 1 (by decide)).trans c1, (hat 2 (by decide)).trans c2, (hat 3 (by decide)).trans c3, (hat 4 (by decide)).trans c4⟩
end

def s34 : SS := SS.new ⟨[0, 0, 0], 0⟩ 3 4
theorem inv34 : Inv 4 s34 [] 0 := Inv.new 3 4 (by omega) (by omega)
theorem SS.has_zero (s : SS) : s.has 0 = false := SS.has_out (by have : plc 0 = -1 := by decide
                                                                 rw [this]; omega)
theorem begun_34 (w : World) : Calls Try.prog 10 #[.int .i64 3, .int .i64 4] w (BegunYes w s34) := begun_yes w 3 4 s34 rfl (by omega) (by omega) (by omega)
/-- a slab that stands in a Both is one of its own -/
theorem SBoth.own {w V FT N K s L} (h : SBoth w V FT N K s L) : ∃ p pm mv rv mx k gx tx fx lv, V = .agg #[.pointer (some ⟨p, 0, none⟩), .pointer (some ⟨pm, 0, none⟩), mx, .int .i64 k, .int .i64 s.first, .int .i64 s.words, gx, tx, fx, lv] ∧
    Own w FT w p pm mv rv N s ∧ Lies w 38 1 lv L.length (L.map (Value.int .u64)) ∧ (∀ b, lv.ownBlock = some b → b ∉ FT) ∧ (∀ b ∈ FT, b < w.heap.size) ∧
    (∃ a n c, mx = .slice a n c) ∧ (∃ a n c, gx = .slice a n c) ∧ (∃ a n c, tx = .slice a n c) ∧ (∃ a n c, fx = .slice a n c) ∧ ∃ a c, lv = .slice a L.length c := by
  obtain ⟨p, pm, mv, rv, fv, nn, mx, gx, tx, fx, k, lv, rfl, rfl, hs, hnn, hrf, hl, hap⟩ := h
  obtain ⟨⟨ma, mc, rfl⟩, ⟨ga, gc, rfl⟩, ⟨ta, tc, rfl⟩, ⟨fa, fc, rfl⟩⟩ := hrf.forms
  obtain ⟨la, lc, rfl, _⟩ := hl.form
  exact ⟨p, pm, mv, rv, _, k, _, _, _, _, rfl, ⟨fv, nn, hs, hnn, Fr.refl _ _, fun k hk => Or.inl hk⟩, hl, fun b hb => hap b (Or.inr hb), hs.lt, ⟨_, _, _, rfl⟩, ⟨_, _, _, rfl⟩, ⟨_, _, _, rfl⟩, ⟨_, _, _, rfl⟩, _, _, rfl⟩
end Go.Proofs.Ytkampbbginamhaa
