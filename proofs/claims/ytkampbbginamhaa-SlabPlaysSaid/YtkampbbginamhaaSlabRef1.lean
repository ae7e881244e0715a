/- EXACT CONTRACTS OF THE DOCUMENT's ANSWERS FOR mem THAT slab's ANSWERS CALL -/
import Derived.Test.YtkampbbginamhaaMemRef
import Derived.Test.YtkampbbginamhaaLies
namespace Go.Proofs.Ytkampbbginamhaa
open Go.RowKit
set_option linter.unusedVariables false
set_option linter.unusedSimpArgs false

def StoredRef (w : World) (cs : List Int) (a : Nat) (x k : Int) (e : Ending) (w' : World) : Prop :=
  ∃ g' c', e = .returned (.tuple #[.agg #[.slice (some ⟨g', 0, none⟩) cs.length c', .int .i64 (k + 1)], .int .i64 0]) ∧ NewRef w (.slice (some ⟨g', 0, none⟩) cs.length c') (cs.set a x) w'

theorem newRef_put {w W w2 : World} {n c' g' : Nat} {cs' : List Int} {x y : Value} (hF : Fr [] w W) (hN : NewRef W (.slice (some ⟨g', 0, none⟩) n c') cs' w2) (hB : w.heap.size + 1 < W.heap.size) :
    NewRef w (.slice (some ⟨g', 0, none⟩) n c') cs' ((w2.setCell ⟨w.heap.size + 1, 0, none⟩ x).setCell ⟨w.heap.size + 1, 1, none⟩ y) := by
  have hg := hN.2.2 g' rfl
  have hne : ∀ o, (Value.slice (some ⟨g', 0, none⟩) n c').ownBlock ≠ some (⟨w.heap.size + 1, o, none⟩ : Addr).block := by intro o h; simp [Value.ownBlock] at h; omega
  refine ⟨ownsRow_setCell_other (ownsRow_setCell_other hN.1 (hne 0) _) (hne 1) _, ((hF.trans hN.2.1 (by simp)).setCell (Or.inr (by simp)) _).setCell (Or.inr (by simp)) _, ?_⟩
  intro q hq
  have hsz := hF.size
  have := hN.2.2 q hq
  omega

theorem rstore_in (w : World) (a : Nat) (k x : Int) {v : Value} {cs : List Int} (h : Ref w v cs) (hl : cs.length ≤ 1000000) (ha : a < cs.length) (hk : 0 ≤ k) (hk' : k ≤ 1000000000000) :
    Calls Try.prog 31 #[.agg #[v, .int .i64 k], .int .i64 a, .int .u64 x] w (StoredRef w cs a x k) := by
  obtain ⟨g, c, y, rfl, hg, hy⟩ := h.cell a (by omega)
  have H := Lib.hid h
  have HH : Hid (0 ≤ (a : Int) ∧ (a : Int) < cs.length) := Lib.hid ⟨by omega, by omega⟩
  clear h
  have hgB : ¬ w.heap.size = g := by omega
  have hgB1 : ¬ w.heap.size + 1 = g := by omega
  go_enter Try.func31, Try.ntmps31
  go_wp2_with (go_at_call 41; refine (there_any _ _ _ (H.out.keep (((Fr.refl [] w).alloc _).alloc _) (by simp)) hl).mono ?_; rintro e w1 ⟨rfl, hf⟩; rw [decide_eq_true HH.out]; refine go_stop ?_)
  obtain ⟨hA, hB, hf'⟩ := two_boxes hf
  have a0 := cell_block hA 0
  have a1 := cell_block hA 1
  have b0 := cell_block hB 0
  have b1 := cell_block hB 1
  have e0 := free_block hB 0
  have e1 := free_block hB 1
  simp at a0 a1 b0 b1
  have cy := hf'.cell hy (by simp)
  have HR := Lib.hid (H.out.keep hf' (by simp))
  have HF := Lib.hid hf'
  have HB := Lib.hid hB
  have hw1 : w.heap.size + 1 < w1.heap.size := lt_of_block hB
  clear hf hf' hA hB hy
  unfold Stop
  go_wp2_with (go_at_call 42; refine (put_any _ a _ k (cs := cs) (by exact HR.out) hl (by omega) (by omega) hk hk').mono ?_; rintro e w2 ⟨g', c', rfl, hnew⟩; have hB2 := hnew.2.1.keep HB.out (by simp); have e0' := free_block hB2 0; have e1' := free_block hB2 1; clear hB2; have a0' := hnew.2.1.cell a0 (by simp); have a1' := hnew.2.1.cell a1 (by simp); have cy' := hnew.2.1.cell cy (by simp); have b0' := hnew.2.1.cell b0 (by simp); have b1' := hnew.2.1.cell b1 (by simp); have HN := Lib.hid hnew; clear hnew)
  refine bodyPost_ret (v := .tuple #[.agg #[.slice (some ⟨g', 0, none⟩) cs.length c', .int .i64 (k + 1)], .int .i64 0]) (by simp [results, Try.results31, go_sem, *]) rfl ⟨_, _, rfl, ?_⟩
  exact newRef_put HF.out HN.out (by simpa using hw1)

/-- zero cells more -/
def GrownRef (w : World) (cs : List Int) (n : Nat) (k : Int) (e : Ending) (w' : World) : Prop :=
  ∃ v', e = .returned (.tuple #[.agg #[v', .int .i64 k], .int .i64 cs.length, .int .i64 0]) ∧ NewRef w v' (cs ++ List.replicate n 0) w'
structure GrowEx (w0 : World) (cs : List Int) (m : Nat) (v i : Value) (w' : World) : Prop where
  fr : Fr [] w0 w'
  row : Ref w' v (cs ++ List.replicate m 0)
  own : ∀ g, v.ownBlock = some g → w0.heap.size ≤ g

theorem rgrow_in (w : World) (n : Nat) (k : Int) {v : Value} {cs : List Int} (h : Ref w v cs) (hl : cs.length + n ≤ 65536) (hk : 0 ≤ k) (hk' : k ≤ 1000000000000) :
    Calls Try.prog 38 #[.agg #[v, .int .i64 k], .int .i64 n] w (GrownRef w cs n k) := by
  have hb : decide ((n : Int) < 0) = false := by simp
  have hb2 : decide (65536 < (n : Int)) = false := by simp; omega
  have hb3 : decide (65536 < (cs.length : Int) + n) = false := by simp; omega
  have H := Lib.hid h
  have hv' : ∃ s c, v = .slice s cs.length c := h.form
  obtain ⟨s, c, rfl⟩ := hv'
  clear h
  go_enter Try.func38, Try.ntmps38
  go_wp2_with (at_builtin; refine wpList_append_fr rfl (.tmp 24) (.tmp 26) 26 38 (.int .u64 0) 1 8 rfl u64_slice u64_info rfl (by decide) _ 0 [] rfl (own_empty _ _ _ (by simp)) _ cs.length _ rfl ?src (u64_one cs) (by unfold maxLen; omega) (by omega) ?app)
  case src => exact H.out.keep ((((Fr.refl [] w).alloc _).alloc _).alloc _) (by simp)
  case app =>
  intro v1 w1 hown hfr hat
  obtain ⟨w0, hw0⟩ : ∃ w0, w0 = (w.alloc (.cells #[.slice s cs.length c, .int .i64 k] 28)).alloc (.cells #[.slice none 0 0, .int .i64 0] 28) := ⟨_, rfl⟩
  have hsz : w0.heap.size = w.heap.size + 2 := by subst hw0; simp
  have hrel : GrowEx w0 cs 0 v1 (.int .i64 0) w1 := by
    refine ⟨?_, by simpa [Ref] using hown, ?_⟩
    · rw [hw0]
      exact ((Fr.refl [] _).alloc _).trans hfr (by intro x hx; simp [Value.ownBlock] at hx; simp; omega)
    · intro g hg
      rcases hat g hg with h | h
      · simp [Value.ownBlock] at h; omega
      · omega
  have HW := Lib.hid hw0
  have HS := Lib.hid hsz
  have HR := Lib.hid hrel
  clear hown hfr hat hw0 hsz hrel
  go_wp2_with fail
  go_loopw [7, 8] (fun v i wr => ∃ j : Nat, j ≤ n ∧ i = .int .i64 j ∧ GrowEx w0 cs j v (.int .i64 j) wr) (fun _ i _ => n - (intOf i).toNat)
  case atStart => exact ⟨0, Nat.zero_le _, rfl, HR.out⟩
  case round =>
    obtain ⟨j, hj, rfl, hr⟩ := hrel
    obtain ⟨hfr, hown, hat⟩ := hr
    have HF := Lib.hid hfr
    have HO := Lib.hid hown
    have HA := Lib.hid hat
    clear hfr hown hat
    by_cases hlt : j < n
    · go_wp2_with (at_builtin; refine wpList_append_fr rfl (.tmp 33) (.tmp 34) 26 38 (.int .u64 0) 1 8 rfl u64_slice u64_info rfl (by decide) _ (cs ++ List.replicate j 0).length _ rfl (HO.out.alloc _) _ 1 [.int .u64 0] rfl (own_one _ _ _ _ rfl) (by intro y hy; simp at hy; subst hy; rfl) (by unfold maxLen; simp; omega) (by simp; omega) ?app2)
      case app2 =>
      intro v' w' hown' hfr' hat'
      have HO' := Lib.hid hown'
      have HF' := Lib.hid hfr'
      have HA' := Lib.hid hat'
      clear hown' hfr' hat'
      go_wp2
      go_roundw
      case rel =>
        refine ⟨j + 1, by omega, by go_num, ?_, ?_, ?_⟩
        · exact (HF.out.alloc _).trans HF'.out (by intro x hx; exact Or.inr (HA.out x (by simpa using hx)))
        · have := HO'.out
          unfold Ref
          rw [List.replicate_succ', ← List.append_assoc]
          simpa [Nat.add_assoc] using this
        · intro g hg
          have := HF.out.size
          rcases HA'.out g hg with h | h
          · exact HA.out g h
          · first | omega | (simp at h; omega)
      case measure => simp [intOf]; omega
    · obtain rfl : j = n := by omega
      obtain ⟨hA, hB⟩ := two_boxes (w := w) (by have := HF.out; rw [HW.out] at this; exact this)
      have a0 := cell_block hA 0
      have a1 := cell_block hA 1
      have b0 := cell_block hB.1 0
      have b1 := cell_block hB.1 1
      have e0 := free_block hB.1 0
      have e1 := free_block hB.1 1
      simp at a0 a1 b0 b1
      clear hA hB
      have hfin : ∀ x y, NewRef w u7 (cs ++ List.replicate j 0) ((wr.drew.setCell ⟨w.heap.size + 1, 0, none⟩ x).setCell ⟨w.heap.size + 1, 1, none⟩ y) := by
        intro x y
        have hS := HS.out
        have hne : ∀ o, u7.ownBlock ≠ some (⟨w.heap.size + 1, o, none⟩ : Addr).block := by intro o h; have := HA.out _ h; simp at this; omega
        have hF : Fr [] w wr := (by rw [HW.out] at HF; exact (((Fr.refl [] w).alloc _).alloc _).trans HF.out (by simp))
        refine ⟨ownsRow_setCell_other (ownsRow_setCell_other (w := wr.drew) HO.out (hne 0) _) (hne 1) _, ?_, ?_⟩
        · exact (hF.drew.setCell (Or.inr (by simp)) _).setCell (Or.inr (by simp)) _
        · intro q hq
          have := HA.out q hq
          omega
      have HFIN := Lib.hid hfin
      obtain ⟨s', n', c', rfl⟩ : ∃ s' n' c', u7 = .slice s' n' c' := by
        rcases ownsRow_form HO.out with ⟨rfl, hn⟩ | ⟨g, c, rfl, _, _⟩ <;> exact ⟨_, _, _, rfl⟩
      clear hfin
      go_wp2_with fail
      go_region_held3 (fun w' => w'.cell? ⟨w.heap.size, 0, none⟩ = some (.slice s cs.length c) ∧ w'.cell? ⟨w.heap.size, 1, none⟩ = some (.int .i64 k)) (go_keep) (fail)
      go_wp2
      refine bodyPost_ret (v := .tuple #[.agg #[.slice s' n' c', .int .i64 k], .int .i64 cs.length, .int .i64 0]) (by simp [results, Try.results38, go_sem, *]) rfl ⟨_, rfl, ?_⟩
      exact HFIN.out _ _
end Go.Proofs.Ytkampbbginamhaa
