/- THE DOCUMENT's WATCHES (impostref11): Ints, Stab: contracts -/
import Derived.Test.YtcieokfjkfpajaaSiRef
namespace Go.Proofs.Ytcieokfjkfpajaa
open Go.RowKit
set_option linter.unusedVariables false
set_option linter.unusedSimpArgs false

def InIn (w : World) (v : Value) (l : List Int) : Prop := LIn inC 1 w v l
theorem InIn.here {w : World} {v : Value} {l : List Int} (h : InIn w v l) (hn : 0 < l.length) : ∃ g off c, v = .slice (some ⟨g, off, none⟩) l.length c ∧ g < w.heap.size ∧ l.length ≤ c ∧ ∀ i x, l[i]? = some x → w.cell? ⟨g, off + i, none⟩ = some (.int .i64 x) := by
  obtain ⟨g, off, c, hv, h1, h2, h3⟩ := LIn.here h hn
  refine ⟨g, off, c, hv, h1, h2, fun i x hx => ?_⟩
  have q := h3 i x hx 0 (by decide)
  simpa [inC] using q
theorem out_in {w w' : World} {v : Value} {l : List Int} (h : OutAt inC 3 1 w w' v l) : InIn w' v l := LAt.read h.lies inC.len
theorem eq_of_all {l r : List Int} (hl : l.length = r.length) (h : ∀ (i : Nat) (x y : Int), l[i]? = some x → r[i]? = some y → x = y) : l = r := by
  apply List.ext_getElem? 
  intro i
  by_cases hi : i < l.length
  · rw [List.getElem?_eq_getElem hi, List.getElem?_eq_getElem (by omega), h i _ _ (List.getElem?_eq_getElem hi) (List.getElem?_eq_getElem (by omega))]
  · rw [List.getElem?_eq_none (by omega), List.getElem?_eq_none (by omega)]
set_option maxHeartbeats 1000000 in
theorem rsi_ints (a b : Value) (l r : List Int) (w : World) (ha : InIn w a l) (hb : InIn w b r) (h1 : l.length ≤ 100000) (h2 : r.length ≤ 100000) :
    Calls Try.prog 13 #[a, b] w fun e w' => e = .returned (.bool (l == r)) ∧ Fr [] w w' := by
  obtain ⟨s1, c1, rfl, la, ma⟩ := ha.form
  obtain ⟨s2, c2, rfl, lb, mb⟩ := hb.form
  obtain ⟨R, hR⟩ : ∃ R, R = (l == r) := ⟨_, rfl⟩
  rw [← hR]
  have HR := Lib.hid hR
  have HA := Lib.hid ha
  have HB := Lib.hid hb
  clear ha hb hR ma mb
  by_cases hlen : l.length = r.length
  · rw [← hlen] at lb HB ⊢
    have HLEN := Lib.hid hlen
    clear hlen h2
    go_enter Try.func13, Try.ntmps13
    go_upto_region 4 with fail
    go_loopw [5] (fun iv wr => ∃ (j : Nat), iv = .int .i64 j ∧ j ≤ l.length ∧ (∀ (i : Nat) (x y : Int), i < j → l[i]? = some x → r[i]? = some y → x = y) ∧ Fr [] w wr) (fun i _ => l.length - (intOf i).toNat)
    case atStart => exact ⟨0, rfl, Nat.zero_le _, by intro i x y h; omega, Fr.refl _ _⟩
    case round =>
      obtain ⟨j, rfl, hj, hall, hf⟩ := hrel
      have HALL := Lib.hid hall
      have HF := Lib.hid hf
      clear hall hf
      by_cases h : j < l.length
      · obtain ⟨x, hx⟩ : ∃ x, l[j]? = some x := ⟨_, List.getElem?_eq_getElem h⟩
        obtain ⟨y, hy⟩ : ∃ y, r[j]? = some y := ⟨_, List.getElem?_eq_getElem (by have := HLEN.out; omega)⟩
        obtain ⟨g, off, d1, e1, _, l1, k1⟩ := InIn.here HA.out (by omega)
        obtain ⟨g2, off2, d2, e2, _, l2, k2⟩ := InIn.here HB.out (by have := HLEN.out; omega)
        simp only [Value.slice.injEq] at e1 e2
        obtain ⟨rfl, _, rfl⟩ := e1
        obtain ⟨rfl, _, rfl⟩ := e2
        have a0 := HF.out.cell (k1 j x hx) (by simp)
        have b0 := HF.out.cell (k2 j y hy) (by simp)
        have HX := Lib.hid hx
        have HY := Lib.hid hy
        have t1 : decide (j < l.length) = true := by simpa using h
        have A0 := fun n : After [] wr => n.cell a0 (by simp)
        have B0 := fun n : After [] wr => n.cell b0 (by simp)
        clear k1 k2 hx hy a0 b0
        go_upto_region 6 with fail
        refine wp_region_after [] (by kernel_rfl) (by kernel_rfl) ?_
        repeat (go_big_quiet_step (fail))
        refine wpQuiet_nil ?_
        rintro _ ⟨nq, rfl⟩
        have HN := Lib.hid (HF.out.trans nq.fr (by simp))
        clear A0 B0
        by_cases hxy : x = y
        · have HE := Lib.hid hxy
          have t2 : (x == y) = true := by simpa using hxy
          clear hxy
          go_wp2_with fail
          go_roundw
          case rel =>
            refine ⟨j + 1, by go_num, by omega, ?_, HN.out⟩
            intro i u v hi hu hv
            by_cases hij : i = j
            · subst hij
              rw [HX.out] at hu
              rw [HY.out] at hv
              cases hu; cases hv; exact HE.out
            · exact HALL.out i u v (by omega) hu hv
          case measure => simp [intOf]; omega
        · have HE := Lib.hid hxy
          have t2 : (x == y) = false := by simpa using hxy
          clear hxy
          go_wp2_with fail
          go_ret
          refine ⟨?_, HN.out⟩
          rw [HR.out, beq_eq_false_iff_ne.2 (fun e => HE.out (by have h5 := HX.out; rw [e, HY.out] at h5; cases h5; rfl))]
          rfl
      · have t1 : decide (j < l.length) = false := by simpa using h
        have hjl : j = l.length := by omega
        have HJ := Lib.hid hjl
        clear hjl
        go_wp2_with fail
        go_ret
        refine ⟨?_, HF.out⟩
        rw [HR.out, beq_iff_eq.2 (eq_of_all HLEN.out fun i x y hx hy => HALL.out i x y (by have := (List.getElem?_eq_some_iff.1 hx).1; have := HJ.out; omega) hx hy)]
        rfl
  · have t1 : ((l.length : Int) == (r.length : Int)) = false := by rw [beq_eq_false_iff_ne]; omega
    have t2 : (l.length == r.length) = false := by rw [beq_eq_false_iff_ne]; omega
    have HLEN := Lib.hid hlen
    clear hlen
    go_enter Try.func13, Try.ntmps13
    go_wp2_with fail
    go_ret
    refine ⟨?_, Fr.refl _ _⟩
    rw [HR.out, beq_eq_false_iff_ne.2 (fun e => HLEN.out (by rw [e]))]
    rfl
end Go.Proofs.Ytcieokfjkfpajaa
