/- PACKAGE slices at strings: Grow, Concat: contracts -/
import Derived.Test.YtjclbgeclopheaaTxLst
import Derived.Lib.AppendZeros
import Derived.WalkSpells
namespace Go.Proofs.Ytjclbgeclopheaa
open Go.RowKit
set_option linter.unusedVariables false
set_option linter.unusedSimpArgs false

/-- an append of zeros to nothing, cut to nothing: room -/
theorem grown_room (w : World) (n cap : Nat) (e : TypeId) (hc : n ≤ cap) (hm : cap ≤ maxLen) (z : Value) (hz : z.cells.size = 1) (cs : Array Value) (hcs : cap ≤ cs.size) :
    Lies (w.drew.alloc (.cells cs e)) e 1 (.slice (some ⟨w.heap.size, 0, none⟩) 0 cap) 0 [] :=
  ⟨by simp, Or.inr ⟨w.heap.size, 0, cap, cs, rfl, new_block w.drew _, Nat.zero_le _, hm, by omega, fun j hj => by omega⟩⟩
theorem grow_run (n : Nat) (w : World) (h : 0 < n) (bn : n ≤ 1000000000) : ∃ cap cs, n ≤ cap ∧ (Builtin.append_ #[32, 3] 32 #[.slice none 0 0, .int .i64 n]).run Try.prog w = .ok (.slice (some ⟨w.heap.size, 0, none⟩) n cap) (w.drew.alloc (.cells cs 9)) ∧
    Lies (w.drew.alloc (.cells cs 9)) 9 1 (.slice (some ⟨w.heap.size, 0, none⟩) 0 cap) 0 [] := by
  obtain ⟨i, hi, hz, hs, hb⟩ := info_parts str_info
  have hcap := grownCap_ge w n 0 9
  have hcm := grownCap_le_maxLen w n 0 9 (by unfold maxLen; omega)
  have hrun := Go.Lib.run_append_nil_zeros (P := Try.prog) w 32 3 32 9 i _ .i64 .i64 st_slice Try.underlying3 hi hz n h (by omega) (by omega) (by rw [hb]; omega)
  refine ⟨_, _, hcap, hrun, grown_room w n _ _ hcap hcm (.string ⟨#[]⟩) rfl _ ?_⟩
  rw [Array.size_append, size_zeroCells, size_zeroCells]
  show _ ≤ n * 1 + _ * 1
  omega
set_option maxHeartbeats 1000000 in
set_option maxRecDepth 100000 in
theorem grow_st (n : Nat) (w : World) (bn : n ≤ many) : Calls Try.prog 51 #[.slice none 0 0, .int .i64 n] w fun e w' => ∃ v, e = .returned v ∧ OutAt stC 9 1 w w' v [] ∧ Fr [] w w' := by
  unfold many at bn
  go_enter Try.func51, Try.ntmps51
  by_cases h : 0 < n
  · have t1 : decide (0 < n) = true := by simpa using h
    obtain ⟨cap, cs, hcap, hrun, hok⟩ := grow_run n w h bn
    have HOK := Lib.hid hok
    have HR := Lib.hid hrun
    clear hrun hok
    go_wp2_with (at_builtin; refine Go.Lib.wpList_append_run w rfl (.tmp 20) (.tmp 21) 32 3 rfl _ _ rfl rfl _ _ HR.out ?_)
    go_ret
    exact ⟨_, rfl, ⟨HOK.out, fun k hk => by simp [Value.ownBlock] at hk; omega⟩, ((Fr.refl [] w).drew).alloc _⟩
  · obtain rfl : n = 0 := by omega
    go_wp2
    go_ret
    exact ⟨_, rfl, OutAt.nil _ _, Fr.refl _ _⟩
/-! a row of rows -/
def rowC (x : Value × List ByteArray) : List Value := [x.1]
theorem rowC_len (x : Value × List ByteArray) : (rowC x).length = 1 := rfl
def total : List (Value × List ByteArray) → Nat
  | [] => 0
  | x :: r => x.2.length + total r
theorem total_app : ∀ a b : List (Value × List ByteArray), total (a ++ b) = total a + total b
  | [], b => by simp [total]
  | x :: r, b => by simp only [List.cons_append, total, total_app r b]; omega
theorem total_take {l : List (Value × List ByteArray)} {j : Nat} {x : Value × List ByteArray} (hx : l[j]? = some x) : total (l.take (j + 1)) = total (l.take j) + x.2.length := by
  rw [List.take_add_one, hx, total_app]; rfl
theorem total_le (l : List (Value × List ByteArray)) (j : Nat) : total (l.take j) ≤ total l := by
  have := total_app (l.take j) (l.drop j)
  rw [List.take_append_drop] at this; omega
theorem flat_len2 : ∀ l : List (Value × List ByteArray), (l.flatMap (·.2)).length = total l
  | [] => rfl
  | x :: r => by simp only [List.flatMap_cons, List.length_append, total, flat_len2 r]
theorem flat_take {l : List (Value × List ByteArray)} {j : Nat} {x : Value × List ByteArray} (hx : l[j]? = some x) : (l.take (j + 1)).flatMap (·.2) = (l.take j).flatMap (·.2) ++ x.2 := by
  rw [List.take_add_one, hx, List.flatMap_append]; simp
structure Rows (w : World) (v : Value) (L : List (Value × List ByteArray)) : Prop where
  here : LIn rowC 1 w v L
  each : ∀ x ∈ L, StIn w x.1 x.2
theorem Rows.keep0 {w w' : World} {v : Value} {L : List (Value × List ByteArray)} (h : Rows w v L) (hf : Fr [] w w') : Rows w' v L := ⟨LIn.keep0 h.here hf, fun x hx => LIn.keep0 (h.each x hx) hf⟩
theorem Rows.spot {w : World} {v : Value} {L : List (Value × List ByteArray)} (h : Rows w v L) (hn : 0 < L.length) : ∃ (g off c : Nat), v = .slice (some ⟨g, off, Option.none⟩) L.length c ∧ ∀ i x, L[i]? = some x → w.cell? ⟨g, off + i, Option.none⟩ = some x.1 := by
  obtain ⟨g, off, c, hv, h1, h2, h3⟩ := LIn.here h.here hn
  refine ⟨g, off, c, hv, fun i x hx => ?_⟩
  have q := h3 i x hx 0 (by decide)
  simpa [rowC] using q
set_option maxHeartbeats 1000000 in
theorem concat_st (v : Value) (L : List (Value × List ByteArray)) (w : World) (h : Rows w v L) (bL : L.length ≤ many) (bt : total L ≤ many) : Calls Try.prog 41 #[v] w fun e w' => ∃ v', e = .returned v' ∧ OutAt stC 9 1 w w' v' (L.flatMap (·.2)) ∧ Fr [] w w' := by
  unfold many at bL bt
  obtain ⟨s1, c1, rfl, la, ma⟩ := LIn.form h.here
  unfold maxLen at ma
  have HL := Lib.hid h
  clear h
  go_enter Try.func41, Try.ntmps41
  go_wp2_with fail
  go_loopw [3, 11] (fun s i wr => ∃ (j : Nat) (m : Nat), s = .int .i64 m ∧ i = .int .i64 j ∧ j ≤ L.length ∧ m = total (L.take j) ∧ w = wr) (fun _ i _ => L.length - (intOf i).toNat)
  case atStart => exact ⟨0, 0, rfl, rfl, Nat.zero_le _, rfl, rfl⟩
  case round =>
    obtain ⟨j, m, rfl, rfl, hj, hm, rfl⟩ := hrel
    have HM := Lib.hid hm
    have hml : m ≤ 1000000000 := by rw [hm]; exact Nat.le_trans (total_le L j) bt
    clear hm
    by_cases hlt : j < L.length
    · obtain ⟨x, hx⟩ : ∃ x, L[j]? = some x := ⟨_, List.getElem?_eq_getElem hlt⟩
      obtain ⟨g, off, d1, e1, k1⟩ := HL.out.spot (by omega)
      simp only [Value.slice.injEq] at e1
      obtain ⟨rfl, _, rfl⟩ := e1
      have p0 := k1 j x hx
      have HX := Lib.hid hx
      have hxl : x.2.length ≤ 1000000000 := by have := total_take hx; have := total_le L (j + 1); omega
      obtain ⟨s2, c2, hv2, la2, ma2⟩ := LIn.form (HL.out.each x (List.mem_of_getElem? hx))
      unfold maxLen at ma2
      rw [hv2] at p0
      have t1 : decide (j < L.length) = true := by simpa using hlt
      clear hx k1 hv2
      go_wp2_with fail
      go_roundw
      case rel => exact ⟨j + 1, m + x.2.length, by go_num, by go_num, by omega, by rw [total_take HX.out, ← HM.out], trivial⟩
      case measure => simp [intOf]; omega
    · have t1 : decide (j < L.length) = false := by simpa using hlt
      have hj2 : j = L.length := by omega
      subst hj2
      clear HM
      go_wp2_with (go_at_call 51; refine (grow_st m _ hml).mono ?_; rintro e w1 ⟨v1, rfl, ho1, hf1⟩; refine go_stop ?_)
      unfold Stop
      obtain ⟨s3, c3, rfl⟩ : ∃ s c, v1 = .slice s 0 c := by obtain ⟨s3, c3, h, _⟩ := ho1.lies.form; exact ⟨s3, c3, h⟩
      have HO1 := Lib.hid ho1
      have HF1 := Lib.hid hf1
      clear ho1 hf1 hml hlt t1
      go_wp2_with fail
      go_loopw [6, 27] (fun v i wr => ∃ (j : Nat) (o : List ByteArray), i = .int .i64 j ∧ j ≤ L.length ∧ OutAt stC 9 1 w wr v o ∧ o = (L.take j).flatMap (·.2) ∧ Fr [] w wr) (fun _ i _ => L.length - (intOf i).toNat)
      case atStart => exact ⟨0, [], rfl, Nat.zero_le _, HO1.out, rfl, HF1.out⟩
      case round =>
        clear HO1 HF1
        obtain ⟨j, o, rfl, hj, ho, hs, hf⟩ := hrel
        have hol : o.length ≤ 1000000000 := by rw [hs, flat_len2]; exact Nat.le_trans (total_le L j) bt
        have HO := Lib.hid ho
        have HS := Lib.hid hs
        have HF := Lib.hid hf
        clear ho hs hf
        by_cases hlt : j < L.length
        · obtain ⟨x, hx⟩ : ∃ x, L[j]? = some x := ⟨_, List.getElem?_eq_getElem hlt⟩
          obtain ⟨g, off, d1, e1, k1⟩ := (HL.out.keep0 HF.out).spot (by omega)
          simp only [Value.slice.injEq] at e1
          obtain ⟨rfl, _, rfl⟩ := e1
          have p0 := k1 j x hx
          have HX := Lib.hid hx
          have hsum : o.length + x.2.length ≤ 1000000000 := by
            have h1 := total_take hx
            have h2 := total_le L (j + 1)
            rw [HS.out, flat_len2]; omega
          have HST := Lib.hid (LIn.keep0 (HL.out.each x (List.mem_of_getElem? hx)) HF.out)
          have t1 : decide (j < L.length) = true := by simpa using hlt
          clear hx k1
          go_wp2_with (at_builtin; refine wpList_append_src rfl (.tmp 31) (.tmp 32) 32 9 (.string ⟨#[]⟩) 1 16 rfl st_slice str_info rfl (by decide) _ o.length (allC stC o) rfl HO.out.lies x.1 x.2.length (allC stC x.2) rfl (LIn.src HST.out stC_len (by decide)) (allC_ones stC_one x.2) (by unfold maxLen; omega) (by omega) ?app)
          case app =>
          intro v' w' h1 h2 h3
          have HA := Lib.hid (OutAt.app HO.out HF.out.size (xs := x.2) h1 rfl h3)
          have HG := Lib.hid (OutAt.fr HO.out HF.out h2)
          clear h1 h2 h3
          go_wp2_with fail
          go_roundw
          case rel => exact ⟨j + 1, o ++ x.2, by go_num, by omega, HA.out, by rw [flat_take HX.out, ← HS.out], HG.out⟩
          case measure => simp [intOf]; omega
        · have t1 : decide (j < L.length) = false := by simpa using hlt
          have hj2 : j = L.length := by omega
          subst hj2
          have HO2 : Hid (OutAt stC 9 1 w wr _ (L.flatMap (·.2))) := Lib.hid (by have := HS.out; rw [List.take_length] at this; rw [← this]; exact HO.out)
          go_wp2
          go_ret
          exact ⟨_, rfl, HO2.out, HF.out⟩
end Go.Proofs.Ytjclbgeclopheaa
