/- CONTRACTS OF THE DOCUMENT's ANSWERS FOR mem (package impostref01): each makes new blocks alone. -/
import Derived.Test.YtkampbbginamhaaMem
namespace Go.Proofs.Ytkampbbginamhaa
open Go.RowKit
set_option linter.unusedVariables false
set_option linter.unusedSimpArgs false

/-- the cells of a Mem of the document's answers -/
def Ref (w : World) (v : Value) (cs : List Int) : Prop := w.ownsRow 0 38 1 v cs.length (cs.map (Value.int .u64))
theorem Ref.form {w v cs} (h : Ref w v cs) : ∃ s c, v = .slice s cs.length c := by
  rcases ownsRow_form h with ⟨rfl, hn⟩ | ⟨g, c, rfl, _, _⟩
  · exact ⟨none, 0, by rw [hn]⟩
  · exact ⟨_, c, rfl⟩
theorem Ref.keep {S w w' v cs} (h : Ref w v cs) (hf : Fr S w w') (hv : ∀ k, v.ownBlock = some k → k ∉ S) : Ref w' v cs := ownsRow_fr hf h hv
/-- a new one -/
def NewRef (w : World) (v : Value) (cs : List Int) (w' : World) : Prop := Ref w' v cs ∧ Fr [] w w' ∧ ∀ k, v.ownBlock = some k → w.heap.size ≤ k

theorem there_any (w : World) (a k : Int) {v : Value} {cs : List Int} (h : Ref w v cs) (hl : cs.length ≤ 1000000) :
    Calls Try.prog 41 #[.agg #[v, .int .i64 k], .int .i64 a] w fun e w' => e = .returned (.bool (decide (0 ≤ a ∧ a < cs.length))) ∧ Fr [] w w' := by
  obtain ⟨s, c, rfl⟩ := h.form
  clear h
  by_cases h0 : 0 ≤ a
  · have hb : decide (0 ≤ a) = true := by simpa using h0
    go_enter Try.func41, Try.ntmps41
    go_wp2
    go_ret
    exact ⟨by simp [h0], (Fr.refl _ _).alloc _⟩
  · have hb : decide (0 ≤ a) = false := by simpa using h0
    go_enter Try.func41, Try.ntmps41
    go_wp2
    go_ret
    exact ⟨by simp [h0], (Fr.refl _ _).alloc _⟩

theorem put_any (w : World) (a x k : Int) {v : Value} {cs : List Int} (h : Ref w v cs) (hl : cs.length ≤ 1000000) (h0 : 0 ≤ a) (ha : a < cs.length) (hk : 0 ≤ k) (hk' : k ≤ 1000000000000) :
    Calls Try.prog 42 #[.agg #[v, .int .i64 k], .int .i64 a, .int .u64 x] w fun e w' => ∃ g' c', e = .returned (.agg #[.slice (some ⟨g', 0, none⟩) cs.length c', .int .i64 (k + 1)]) ∧ NewRef w (.slice (some ⟨g', 0, none⟩) cs.length c') (cs.set a.toNat x) w' := by
  obtain ⟨a, rfl⟩ := Int.eq_ofNat_of_zero_le h0
  obtain ⟨s, c, rfl⟩ := h.form
  have H := Lib.hid h
  clear h
  go_enter Try.func42, Try.ntmps42
  go_wp2_with (at_builtin; refine wpList_append_fr rfl (.tmp 8) (.tmp 10) 26 38 (.int .u64 0) 1 8 rfl u64_slice u64_info rfl (by decide) _ 0 [] rfl (own_empty _ _ _ (by simp)) _ cs.length _ rfl ?src (u64_one cs) (by unfold maxLen; omega) (by omega) ?app)
  case src => exact H.out.keep ((((Fr.refl [] w).alloc _).alloc _).alloc _) (by simp)
  case app =>
  intro v' w1 hown hfr hat
  have hB : w1.heap[w.heap.size]? = some (.cells #[.slice s cs.length c, .int .i64 k] 28 (0, 0)) :=
    hfr.keep (by rw [Below.heap_alloc _ _ _ (by simp <;> omega), Below.heap_alloc _ _ _ (by simp <;> omega)]; exact new_block _ _) (by simp [Value.ownBlock]; omega)
  have hB1 : w1.heap[w.heap.size + 1]? = some (.cells #[.slice none 0 0, .int .i64 0] 28 (0, 0)) :=
    hfr.keep (by rw [Below.heap_alloc _ _ _ (by simp <;> omega)]; have := new_block (w.alloc (.cells #[.slice s cs.length c, .int .i64 k] 28)) (.cells #[.slice none 0 0, .int .i64 0] 28); simpa using this) (by simp [Value.ownBlock])
  have hfr' : Fr [] w w1 := ((((Fr.refl [] w).alloc _).alloc _).alloc _).trans hfr (by simp [Value.ownBlock]; omega)
  rcases ownsRow_form hown with ⟨_, hn⟩ | ⟨g, c', rfl, _, _⟩
  · omega
  have hg : w.heap.size + 2 ≤ g := by
    rcases hat g rfl with h | h
    · simp [Value.ownBlock] at h; omega
    · omega
  have hgB : ¬ g = w.heap.size := by omega
  have hgB1 : ¬ g = w.heap.size + 1 := by omega
  obtain ⟨ca, fa⟩ := ownsRow_cell hown a (by omega)
  have cB := cell_block hB 1
  have cB0 := cell_block hB1 0
  have cB1 := cell_block hB1 1
  have fB0 := free_block hB1 0
  have fB1 := free_block hB1 1
  simp at cB cB0 cB1
  have HO := Lib.hid hown
  have HF := Lib.hid hfr'
  have HB1 := Lib.hid hB1
  obtain ⟨y, hy⟩ : ∃ y, y = (cs.map (Value.int .u64)).getD a undef := ⟨_, rfl⟩
  rw [← hy] at ca
  clear hown hfr hfr' hat hB hB1 hy
  go_wp2
  refine bodyPost_ret (v := .agg #[.slice (some ⟨g, 0, none⟩) cs.length c', .int .i64 (k + 1)]) (by simp [results, Try.results42, go_sem, cB0, cB1, ca, hgB1]) rfl ⟨_, _, rfl, ?_, ?_, ?_⟩
  · have h1 := ownsRow_set HO.out a (by omega) (.int .u64 x)
    have h2 := ownsRow_setCell_other (ownsRow_setCell_other h1 (a := ⟨w.heap.size + 1, 0, none⟩) (by simpa [Value.ownBlock] using hgB1) (.slice (some ⟨g, 0, none⟩) cs.length c')) (a := ⟨w.heap.size + 1, 1, none⟩) (by simpa [Value.ownBlock] using hgB1) (.int .i64 (k + 1))
    simpa [Ref, List.map_set] using h2
  · exact ((HF.out.setCell (Or.inr (by simp; omega)) _).setCell (Or.inr (by simp)) _).setCell (Or.inr (by simp)) _
  · intro k hk
    simp [Value.ownBlock] at hk
    omega

/-- what a call of the document's answers hands back: cells of its own, or those that it was handed -/
def RefOut (w : World) (v : Value) (n : Nat) (k : Int) (v' : Value) (k' : Int) (w' : World) : Prop :=
  (∃ cs', Ref w' v' cs' ∧ cs'.length ≤ n + 40) ∧ (0 ≤ k' ∧ k' ≤ k + 1) ∧ Fr [] w w' ∧ ∀ g, v'.ownBlock = some g → v.ownBlock = some g ∨ w.heap.size ≤ g
theorem RefOut.same {w : World} {v : Value} {cs : List Int} {k : Int} {w' : World} (h : Ref w v cs) (hk : 0 ≤ k) (hf : Fr [] w w') : RefOut w v cs.length k v k w' :=
  ⟨⟨cs, h.keep hf (by simp), by omega⟩, ⟨hk, by omega⟩, hf, fun g hg => Or.inl hg⟩
def Out3 (w : World) (v : Value) (n : Nat) (k : Int) (e : Ending) (w' : World) : Prop :=
  ∃ v' k' y z, e = .returned (.tuple #[.agg #[v', .int .i64 k'], .int .u64 y, .int .i64 z]) ∧ RefOut w v n k v' k' w'
theorem Ref.cell {w v cs} (h : Ref w v cs) (a : Nat) (ha : a < cs.length) : ∃ g c y, v = .slice (some ⟨g, 0, none⟩) cs.length c ∧ g < w.heap.size ∧ w.cell? ⟨g, a, none⟩ = some (.int .u64 y) := by
  rcases ownsRow_form h with ⟨_, hn⟩ | ⟨g, c, rfl, hg, _⟩
  · omega
  · obtain ⟨c1, _⟩ := ownsRow_cell h a ha
    refine ⟨g, c, cs[a], rfl, hg, ?_⟩
    rw [c1, List.getD_eq_getElem?_getD, List.getElem?_map, List.getElem?_eq_getElem ha]; rfl

theorem refOut_put {w W w2 : World} {v : Value} {k : Int} {g' n c' : Nat} {cs' : List Int} {x y : Value} (hF : Fr [] w W) (hN : NewRef W (.slice (some ⟨g', 0, none⟩) n c') cs' w2) (hB : w.heap.size + 1 < W.heap.size) (hn : cs'.length = n) (hk : 0 ≤ k) :
    RefOut w v n k (.slice (some ⟨g', 0, none⟩) n c') (k + 1) ((w2.setCell ⟨w.heap.size + 1, 0, none⟩ x).setCell ⟨w.heap.size + 1, 1, none⟩ y) := by
  have hg := hN.2.2 g' rfl
  have hne : ∀ o, (Value.slice (some ⟨g', 0, none⟩) n c').ownBlock ≠ some (⟨w.heap.size + 1, o, none⟩ : Addr).block := by intro o h; simp [Value.ownBlock] at h; omega
  refine ⟨⟨cs', ownsRow_setCell_other (ownsRow_setCell_other hN.1 (hne 0) _) (hne 1) _, by omega⟩, ⟨by omega, by omega⟩, ?_, ?_⟩
  · exact ((hF.trans hN.2.1 (by simp)).setCell (Or.inr (by simp)) _).setCell (Or.inr (by simp)) _
  · intro q hq
    have hsz := hF.size
    simp [Value.ownBlock] at hq
    exact Or.inr (by omega)
theorem refOut_same {w w1 : World} {v : Value} {cs : List Int} {k : Int} {x y : Value} (h : Ref w v cs) (hF : Fr [] w w1) (hk : 0 ≤ k) :
    RefOut w v cs.length k v k ((w1.setCell ⟨w.heap.size + 1, 0, none⟩ x).setCell ⟨w.heap.size + 1, 1, none⟩ y) :=
  RefOut.same h hk ((hF.setCell (Or.inr (by simp)) _).setCell (Or.inr (by simp)) _)
def Out2 (w : World) (v : Value) (n : Nat) (k : Int) (e : Ending) (w' : World) : Prop :=
  ∃ v' k' z, e = .returned (.tuple #[.agg #[v', .int .i64 k'], .int .i64 z]) ∧ RefOut w v n k v' k' w'
def Out3B (w : World) (v : Value) (n : Nat) (k : Int) (e : Ending) (w' : World) : Prop :=
  ∃ v' k' y z, e = .returned (.tuple #[.agg #[v', .int .i64 k'], .int .u64 y, .bool z]) ∧ RefOut w v n k v' k' w'

theorem rstore_any (w : World) (a k x : Int) {v : Value} {cs : List Int} (h : Ref w v cs) (hl : cs.length ≤ 1000000) (hk : 0 ≤ k) (hk' : k ≤ 1000000000000) :
    Calls Try.prog 31 #[.agg #[v, .int .i64 k], .int .i64 a, .int .u64 x] w (Out2 w v cs.length k) := by
  by_cases hh : 0 ≤ a ∧ a < cs.length
  · have HH := Lib.hid hh
    obtain ⟨h0, ha⟩ := hh
    obtain ⟨a, rfl⟩ := Int.eq_ofNat_of_zero_le h0
    obtain ⟨g, c, y, rfl, hg, hy⟩ := h.cell a (by omega)
    have H := Lib.hid h
    clear h
    have hgB : ¬ w.heap.size = g := by omega
    have hgB1 : ¬ w.heap.size + 1 = g := by omega
    go_enter Try.func31, Try.ntmps31
    go_wp2_with (go_at_call 41; refine (there_any _ _ _ (H.out.keep (((Fr.refl [] w).alloc _).alloc _) (by simp)) hl).mono ?_; rintro e w1 ⟨rfl, hf⟩; rw [decide_eq_true HH.out]; refine go_stop ?_)
    obtain ⟨hA, hB, hf'⟩ := two_boxes hf
    have a0 := cell_block hA 0
    have a1 := cell_block hA 1
    have b0 := cell_block hB 0
    have b1 := cell_block hB 1
    have e0 := free_block hB 0
    have e1 := free_block hB 1
    simp at a0 a1 b0 b1
    have cy := hf'.cell hy (by simp)
    have HR := Lib.hid (H.out.keep hf' (by simp))
    have HF := Lib.hid hf'
    have HB := Lib.hid hB
    have hw1 : w.heap.size + 1 < w1.heap.size := lt_of_block hB
    clear hf hf' hA hB hy
    unfold Stop
    go_wp2_with (go_at_call 42; refine (put_any _ a _ k (cs := cs) (by exact HR.out) hl h0 ha hk hk').mono ?_; rintro e w2 ⟨g', c', rfl, hnew⟩; have hB2 := hnew.2.1.keep HB.out (by simp); have e0' := free_block hB2 0; have e1' := free_block hB2 1; clear hB2; have a0' := hnew.2.1.cell a0 (by simp); have a1' := hnew.2.1.cell a1 (by simp); have cy' := hnew.2.1.cell cy (by simp); have b0' := hnew.2.1.cell b0 (by simp); have b1' := hnew.2.1.cell b1 (by simp); have HN := Lib.hid hnew; clear hnew)
    refine bodyPost_ret (v := .tuple #[.agg #[.slice (some ⟨g', 0, none⟩) cs.length c', .int .i64 (k + 1)], .int .i64 0]) (by simp [results, Try.results31, go_sem, *]) rfl ⟨_, _, _, rfl, ?_⟩
    exact refOut_put HF.out HN.out (by simpa using hw1) (by simp) hk
  · have HH := Lib.hid hh
    have H := Lib.hid h
    obtain ⟨s, c, hv⟩ := h.form
    have hv' : ∃ s c, v = .slice s cs.length c := h.form
    obtain ⟨s, c, rfl⟩ := hv'
    clear h hh hv
    go_enter Try.func31, Try.ntmps31
    go_wp2_with (go_at_call 41; refine (there_any _ _ _ (H.out.keep (((Fr.refl [] w).alloc _).alloc _) (by simp)) hl).mono ?_; rintro e w1 ⟨rfl, hf⟩; rw [decide_eq_false HH.out]; refine go_stop ?_)
    obtain ⟨hA, hB, hf'⟩ := two_boxes hf
    have a0 := cell_block hA 0
    have a1 := cell_block hA 1
    have b0 := cell_block hB 0
    have b1 := cell_block hB 1
    have e0 := free_block hB 0
    have e1 := free_block hB 1
    simp at a0 a1 b0 b1
    have HF := Lib.hid hf'
    clear hf hf' hA hB
    unfold Stop
    go_wp2
    refine bodyPost_ret (v := .tuple #[.agg #[.slice s cs.length c, .int .i64 k], .int .i64 1]) (by simp [results, Try.results31, go_sem, *]) rfl ⟨_, _, _, rfl, ?_⟩
    exact refOut_same H.out HF.out hk

end Go.Proofs.Ytkampbbginamhaa
