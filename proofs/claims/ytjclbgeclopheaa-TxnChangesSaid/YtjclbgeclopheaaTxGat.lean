/- PACKAGE txn: gather: contract -/
import Derived.Test.YtjclbgeclopheaaTxStr
import Derived.Test.YtjclbgeclopheaaIter
import Derived.Test.YtjclbgeclopheaaShelf
namespace Go.Proofs.Ytjclbgeclopheaa
open Go.RowKit Go.Sort
set_option linter.unusedVariables false
set_option linter.unusedSimpArgs false

theorem sort_none (p : Option Addr) (c : Nat) (w : World) : Calls Try.prog 42 #[.slice p 0 c] w fun e w' => e = .returned (.tuple #[]) ∧ w' = w :=
  AnyM.slices_Sort_string_none Try.sort42 p c w
/-- the library's sort, in these words -/
theorem sort_st (g off c : Nat) (l : List ByteArray) (e : TypeId) (w : World) (h : LAt stC e 1 w (.slice (some ⟨g, off, none⟩) l.length c) l) (h0 : 0 < l.length) (bl : l.length ≤ many) : Calls Try.prog 42 #[.slice (some ⟨g, off, none⟩) l.length c] w fun e w' =>
    e = .returned (.tuple #[]) ∧ Holds encStr w' g off (sortL l).toArray ∧ Fr [g] w w' := by
  unfold many at bl
  have hh := holds_st h
  have hlt : g < w.heap.size := h.lt g rfl
  have hl : (l.map (·.data.toList)).length = l.length := List.length_map _
  have hs := AnyM.slices_Sort_string Try.sort42 g off c (l.map (·.data.toList)) w hh hlt (by rw [hl]; omega)
  change Calls Try.prog 42 _ _ _ at hs
  rw [hl] at hs
  refine hs.mono ?_
  rintro e w' ⟨rfl, n, os, rfl⟩
  refine ⟨rfl, ?_, (fr_putRow w g off n _).trans (fr_growO _ os) (by simp)⟩
  refine Holds.keep ?_ (fr_growO _ os)
  exact holds_putRow encStr (Sort.ahead w n) g off _ _ (holds_ahead encStr w n g off _ hh) (by simp)
theorem comp_st (g off c : Nat) (l : List ByteArray) (w : World) (h : Holds encStr w g off (sortL l).toArray) (hc : l.length ≤ c) (hm : c ≤ maxLen) (h0 : 0 < l.length) (bl : l.length ≤ many) : Calls Try.prog 43 #[.slice (some ⟨g, off, none⟩) l.length c] w fun e w' =>
    ∃ v ks, e = .returned v ∧ StIn w' v ks ∧ Gath l ks ∧ Fr [g] w w' := by
  unfold many at bl
  have hl := sortL_len l
  have hs : Calls Try.prog 43 #[.slice (some ⟨g, off, none⟩) (sortL l).length c] w _ := Try.slices_Compact_string g off c (sortL l) w h (by rw [hl]; omega) (by rw [hl]; exact hc)
  rw [hl] at hs
  refine hs.mono ?_
  rintro e w' ⟨rfl, q, rfl⟩
  have hle : (Lib.compact (sortL l)).length ≤ l.length := by
    have := (gath_sorted l).le
    rwa [List.length_map] at this
  have hsz : (Lib.compact (sortL l) ++ List.replicate (l.length - (Lib.compact (sortL l)).length) ([] : List UInt8)).toArray.size = (sortL l).toArray.size := by simp [hl]; omega
  have hh := holds_putRow encStr (Sort.ahead w q) g off _ _ (holds_ahead encStr w q g off _ h) hsz
  refine ⟨_, (Lib.compact (sortL l)).map baL, rfl, ?_, gath_sorted l, fr_putRow w g off q _⟩
  have := StIn.of_holds (n := (Lib.compact (sortL l)).length) (c := c) hh (by rw [hsz]; simp [hl]; exact hle) (by omega) hm
  simpa using this
set_option maxHeartbeats 1000000 in
theorem tx_gather (v : Value) (L : List (Value × List ByteArray)) (w : World) (h : Rows w v L) (bL : L.length ≤ many) (bt : total L ≤ many) : Calls Try.prog 25 #[v] w fun e w' => ∃ v' ks, e = .returned v' ∧ StIn w' v' ks ∧ Gath (L.flatMap (·.2)) ks ∧ Fr [] w w' := by
  have hc := concat_st v L w h bL bt
  have hb : (L.flatMap (·.2)).length ≤ many := by rw [flat_len2]; exact bt
  have HB := Lib.hid hb
  generalize L.flatMap (·.2) = l at hc HB ⊢
  have HC := Lib.hid hc
  clear hc h bL bt hb
  go_enter Try.func25, Try.ntmps25
  go_wp2_with (go_at_call 41; refine HC.out.mono ?_; rintro e w1 ⟨v1, rfl, ho, hf⟩; refine go_stop ?_)
  unfold Stop
  obtain ⟨s1, c1, rfl, hc1, hm1⟩ := ho.lies.form
  have HO := Lib.hid ho
  have HF := Lib.hid hf
  clear ho hf
  by_cases h0 : l.length = 0
  · obtain rfl : l = [] := List.eq_nil_of_length_eq_zero h0
    go_wp2_with (go_at_call 42; refine (sort_none s1 c1 _).mono ?_; rintro e w2 ⟨rfl, rfl⟩; refine go_stop ?_)
    unfold Stop
    go_wp2_with (go_at_call 43; refine (Try.slices_Compact_string_empty s1 c1 _).mono ?_; rintro e w2 ⟨rfl, rfl⟩; refine go_stop ?_)
    unfold Stop
    go_wp2
    go_ret
    refine ⟨_, [], rfl, ?_, Gath.nil, HF.out⟩
    exact LAt.read HO.out.lies stC_len
  · obtain ⟨g, off, c2, hv, hg, _⟩ := LAt.here HO.out.lies stC_len (by omega)
    simp only [Value.slice.injEq] at hv
    obtain ⟨rfl, _, rfl⟩ := hv
    have hnew : w.heap.size ≤ g := HO.out.new g rfl
    have HL : Hid (LAt stC 9 1 w1 (.slice (some ⟨g, off, none⟩) l.length c1) l) := Lib.hid HO.out.lies
    clear HO
    go_wp2_with (go_at_call 42; refine (sort_st g off c1 l _ _ HL.out (by omega) HB.out).mono ?_; rintro e w2 ⟨rfl, hh, hf2⟩; refine go_stop ?_)
    unfold Stop
    have HH := Lib.hid hh
    have HF2 := Lib.hid (HF.out.trans hf2 (by simp; omega))
    clear hh hf2
    go_wp2_with (go_at_call 43; refine (comp_st g off c1 l _ HH.out hc1 hm1 (by omega) HB.out).mono ?_; rintro e w3 ⟨v3, ks, rfl, h3, h4, h5⟩; refine go_stop ?_)
    unfold Stop
    have H3 := Lib.hid h3
    have H4 := Lib.hid h4
    have HF3 := Lib.hid (HF2.out.trans h5 (by simp; omega))
    clear h3 h4 h5
    go_wp2
    go_ret
    exact ⟨_, ks, rfl, H3.out, H4.out, HF3.out⟩
end Go.Proofs.Ytjclbgeclopheaa
