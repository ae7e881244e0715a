/- THE LAWS OF hist: put, del, few, do: contracts -/
import Derived.Test.YtpahencocbahgaaHist
import Derived.Test.YtpahencocbahgaaHsApp
import Derived.Test.YtpahencocbahgaaEvCmp
namespace Go.Proofs.Ytpahencocbahgaa
open Go.RowKit
set_option linter.unusedVariables false
set_option linter.unusedSimpArgs false

theorem hput_any (k : ByteArray) (w : World) : Calls Try.prog 21 #[.string k] w fun e w' => e = .returned (.agg #[.string k, .string ⟨#[120]⟩, .bool false]) ∧ Fr [] w w' := by
  go_enter Try.func21, Try.ntmps21
  go_wp2
  refine bodyPost_ret (v := .agg #[.string k, .string ⟨#[120]⟩, .bool false]) (by simp [results, Try.results21, go_sem]) rfl ⟨rfl, (Fr.refl _ _).alloc _⟩
theorem hdel_any (k : ByteArray) (w : World) : Calls Try.prog 22 #[.string k] w fun e w' => e = .returned (.agg #[.string k, .string ⟨#[]⟩, .bool true]) ∧ Fr [] w w' := by
  go_enter Try.func22, Try.ntmps22
  go_wp2
  refine bodyPost_ret (v := .agg #[.string k, .string ⟨#[]⟩, .bool true]) (by simp [results, Try.results22, go_sem]) rfl ⟨rfl, (Fr.refl _ _).alloc _⟩

/-- a deed, and where its ops lie -/
structure Dd where
  kind : Int
  u : Value
  rev : Int
  ops : List Od
def Dd.cells (d : Dd) : List Value := [.int .i64 d.kind, d.u, .int .i64 d.rev]
theorem Dd.clen (d : Dd) : d.cells.length = 3 := rfl
def DdIn (w : World) (v : Value) (l : List Dd) : Prop := LIn Dd.cells 3 w v l ∧ ∀ d ∈ l, OdIn w d.u d.ops
theorem DdIn.keep0 {w w' : World} {v : Value} {l : List Dd} (h : DdIn w v l) (hf : Fr [] w w') : DdIn w' v l := ⟨LIn.keep0 h.1 hf, fun d hd => LIn.keep0 (h.2 d hd) hf⟩
theorem DdIn.form {w : World} {v : Value} {l : List Dd} (h : DdIn w v l) : ∃ s c, v = .slice s l.length c ∧ l.length ≤ c ∧ c ≤ maxLen := LIn.form h.1
theorem DdIn.here {w : World} {v : Value} {l : List Dd} (h : DdIn w v l) (hn : 0 < l.length) : ∃ g off c, v = .slice (some ⟨g, off, none⟩) l.length c ∧ g < w.heap.size ∧ l.length ≤ c ∧
    ∀ i x, l[i]? = some x → w.cell? ⟨g, off + i * 3, none⟩ = some (.int .i64 x.kind) ∧ w.cell? ⟨g, off + i * 3 + 1, none⟩ = some x.u ∧ w.cell? ⟨g, off + i * 3 + 2, none⟩ = some (.int .i64 x.rev) ∧ OdIn w x.u x.ops := by
  obtain ⟨g, off, c, hv, h1, h2, h3⟩ := LIn.here h.1 hn
  refine ⟨g, off, c, hv, h1, h2, fun i x hx => ?_⟩
  have q := h3 i x hx
  have e0 := q 0 (by decide)
  have e1 := q 1 (by decide)
  have e2 := q 2 (by decide)
  rw [← Nat.add_assoc] at e0 e1 e2
  exact ⟨e0, e1, e2, h.2 x (List.mem_of_getElem? hx)⟩
theorem mem_snocD {α : Type} {l : List α} {j : Nat} {x : α} (hx : l[j]? = some x) (y : α) : y ∈ l.take (j + 1) ↔ y ∈ l.take j ∨ y = x := by
  rw [take_snoc hx, List.mem_append, List.mem_singleton]
def fewB (l : List Dd) : Bool := decide (l.length ≤ 30) && l.all (fun d => decide (d.ops.length ≤ 8))
theorem hfew_any (lv : Value) (l : List Dd) (w : World) (hl : DdIn w lv l) : Calls Try.prog 8 #[lv] w fun e w' => ∃ b : Bool, e = .returned (.bool b) ∧ (b = true ↔ (l.length ≤ 30 ∧ ∀ d ∈ l, d.ops.length ≤ 8)) ∧ w = w' := by
  obtain ⟨s1, c1, rfl, la, ma⟩ := hl.form
  unfold maxLen at ma
  have HL := Lib.hid hl
  clear hl
  go_enter Try.func8, Try.ntmps8
  go_wp2_with fail
  go_loopw [3] (fun i wr => ∃ (j : Nat), i = .int .i64 j ∧ j ≤ l.length ∧ j ≤ 31 ∧ (∀ d ∈ l.take j, d.ops.length ≤ 8) ∧ wr.heap = w.heap ∧ Hid (wr = w)) (fun i _ => l.length - (intOf i).toNat)
  case atStart => exact ⟨0, rfl, Nat.zero_le _, by omega, by simp, rfl, Lib.hid rfl⟩
  case round =>
    obtain ⟨j, rfl, hj, hj2, hs, hh, hw⟩ := hrel
    have HS := Lib.hid hs
    have HW := hw
    clear hs hh hw
    by_cases h : j < l.length
    · have t1 : decide ((j : Int) < (l.length : Int)) = true := by simp; omega
      by_cases h2 : j < 31
      · have t2 : decide ((j : Int) < 31) = true := by simp; omega
        obtain ⟨x, hx⟩ : ∃ x, l[j]? = some x := ⟨_, List.getElem?_eq_getElem h⟩
        obtain ⟨g, off, d1, e1, hg, l1, k1⟩ := DdIn.here (w := wr) (by rw [HW.out]; exact HL.out) (by omega)
        cases e1
        obtain ⟨p0, p1, p2, po⟩ := k1 j x hx
        obtain ⟨su, cu, hu, lu, mu⟩ := LIn.form po
        rw [hu] at p1
        have HX := Lib.hid hx
        unfold maxLen at mu
        clear hx k1 po hu
        by_cases h3 : x.ops.length ≤ 8
        · have t3 : decide ((8 : Int) < (x.ops.length : Int)) = false := by simp; omega
          have H3 := Lib.hid h3
          go_wp2_with fail
          go_roundw
          case rel =>
            refine ⟨j + 1, by go_num, by omega, by omega, fun d hd => ?_, by rw [HW.out], HW⟩
            rcases (mem_snocD HX.out d).1 hd with hd | rfl
            · exact HS.out d hd
            · exact H3.out
          case measure => simp [intOf]; omega
        · have t3 : decide ((8 : Int) < (x.ops.length : Int)) = true := by simp; omega
          have H3 := Lib.hid h3
          go_wp2_with fail
          go_ret
          refine ⟨false, rfl, ⟨(fun hc => by cases hc), fun ⟨_, hc⟩ => absurd (hc x (List.mem_of_getElem? HX.out)) H3.out⟩, HW.out.symm⟩
      · have t2 : decide ((j : Int) < 31) = false := by simp; omega
        have t4 : decide ((l.length : Int) ≤ 30) = false := by simp; omega
        go_wp2_with fail
        go_ret
        refine ⟨false, rfl, ⟨(fun hc => by cases hc), fun ⟨hc, _⟩ => by omega⟩, HW.out.symm⟩
    · have t1 : decide ((j : Int) < (l.length : Int)) = false := by simp; omega
      have hjl : l.take j = l := List.take_of_length_le (by omega)
      have HS2 : Hid (∀ d ∈ l, d.ops.length ≤ 8) := Lib.hid (by have := HS.out; rw [hjl] at this; exact this)
      clear hjl
      by_cases h4 : l.length ≤ 30
      · have t4 : decide ((l.length : Int) ≤ 30) = true := by simp; omega
        go_wp2_with fail
        go_ret
        exact ⟨true, rfl, ⟨fun _ => ⟨h4, HS2.out⟩, fun _ => rfl⟩, HW.out.symm⟩
      · have t4 : decide ((l.length : Int) ≤ 30) = false := by simp; omega
        go_wp2_with fail
        go_ret
        exact ⟨false, rfl, ⟨(fun hc => by cases hc), fun ⟨hc, _⟩ => absurd hc h4⟩, HW.out.symm⟩
end Go.Proofs.Ytpahencocbahgaa
