/- CONTRACT OF THE DOCUMENT's ANSWER FOR Grow (package impostref01), for at most 40 cells more. -/
import Derived.Test.YtpnoibgcnjbokaaMemRef
namespace Go.Proofs.Ytpnoibgcnjbokaa
open Go.RowKit
set_option linter.unusedVariables false
set_option linter.unusedSimpArgs false

def OutI (w : World) (v : Value) (n : Nat) (k : Int) (e : Ending) (w' : World) : Prop :=
  ∃ v' k' y z, e = .returned (.tuple #[.agg #[v', .int .i64 k'], .int .i64 y, .int .i64 z]) ∧ RefOut w v n k v' k' w'
/-- a call that goes on from a later world in which all that was there is as it was -/
theorem GrowRel.cells {w0 w w' : World} {a b : Obj} (h : w0 = (w.alloc a).alloc b) (hf : Fr [] w0 w') : w'.heap[w.heap.size]? = some a ∧ w'.heap[w.heap.size + 1]? = some b := by
  subst h
  exact ⟨(two_boxes hf).1, (two_boxes hf).2.1⟩
structure GrowRel (w0 : World) (n m : Nat) (v i : Value) (w' : World) : Prop where
  fr : Fr [] w0 w'
  row : ∃ cs' : List Int, w'.ownsRow 0 23 1 v cs'.length (cs'.map (Value.int .u64)) ∧ cs'.length = n + m
  own : ∀ g, v.ownBlock = some g → w0.heap.size ≤ g

theorem rgrow_any (w : World) (n k : Int) {v : Value} {cs : List Int} (h : Ref w v cs) (hl : cs.length ≤ 60000) (hk : 0 ≤ k) (hk' : k ≤ 1000000000000) (hn : n ≤ 40) :
    Calls Try.prog 24 #[.agg #[v, .int .i64 k], .int .i64 n] w (OutI w v cs.length k) := by
  by_cases hneg : n < 0
  · have hb : decide (n < 0) = true := by simpa using hneg
    have H := Lib.hid h
    have hv' : ∃ s c, v = .slice s cs.length c := h.form
    obtain ⟨s, c, rfl⟩ := hv'
    clear h
    go_enter Try.func24, Try.ntmps24
    go_wp2
    refine bodyPost_ret (v := .tuple #[.agg #[.slice s cs.length c, .int .i64 k], .int .i64 0, .int .i64 7]) (by simp [results, Try.results24, go_sem, *]) rfl ⟨_, _, _, _, rfl, ?_⟩
    exact RefOut.same H.out hk (((Fr.refl [] w).alloc _).alloc _)
  · obtain ⟨n, rfl⟩ := Int.eq_ofNat_of_zero_le (by omega : 0 ≤ n)
    have hb : decide ((n : Int) < 0) = false := by simp
    have hb2 : decide (65536 < (n : Int)) = false := by simp; omega
    have hb3 : decide (65536 < (cs.length : Int) + n) = false := by simp; omega
    have H := Lib.hid h
    have hv' : ∃ s c, v = .slice s cs.length c := h.form
    obtain ⟨s, c, rfl⟩ := hv'
    clear h
    go_enter Try.func24, Try.ntmps24
    go_wp2_with (at_builtin; refine wpList_append_fr rfl (.tmp 24) (.tmp 26) 32 23 (.int .u64 0) 1 8 rfl u64_slice u64_info rfl (by decide) _ 0 [] rfl (own_empty _ _ _ (by simp)) _ cs.length _ rfl ?src (u64_one cs) (by unfold maxLen; omega) (by omega) ?app)
    case src => exact H.out.keep ((((Fr.refl [] w).alloc _).alloc _).alloc _) (by simp)
    case app =>
    intro v1 w1 hown hfr hat
    obtain ⟨w0, hw0⟩ : ∃ w0, w0 = (w.alloc (.cells #[.slice s cs.length c, .int .i64 k] 34)).alloc (.cells #[.slice none 0 0, .int .i64 0] 34) := ⟨_, rfl⟩
    have hsz : w0.heap.size = w.heap.size + 2 := by subst hw0; simp
    have hrel : GrowRel w0 cs.length 0 v1 (.int .i64 0) w1 := by
      refine ⟨?_, ⟨cs, by simpa using hown, rfl⟩, ?_⟩
      · rw [hw0]
        exact ((Fr.refl [] _).alloc _).trans hfr (by intro x hx; simp [Value.ownBlock] at hx; simp; omega)
      · intro g hg
        rcases hat g hg with h | h
        · simp [Value.ownBlock] at h; omega
        · omega
    have HW := Lib.hid hw0
    have HS := Lib.hid hsz
    have HR := Lib.hid hrel
    clear hown hfr hat hw0 hsz hrel
    go_wp2_with fail
    go_loopw [7, 8] (fun v i wr => ∃ j : Nat, j ≤ n ∧ i = .int .i64 j ∧ GrowRel w0 cs.length j v (.int .i64 j) wr) (fun _ i _ => n - (intOf i).toNat)
    case atStart => exact ⟨0, Nat.zero_le _, rfl, HR.out⟩
    case round =>
      obtain ⟨j, hj, rfl, hr⟩ := hrel
      obtain ⟨hfr, ⟨cs', hown, hlen⟩, hat⟩ := hr
      have HF := Lib.hid hfr
      have HO := Lib.hid hown
      have HL := Lib.hid hlen
      have HA := Lib.hid hat
      have hlen' : cs'.length ≤ cs.length + j := by omega
      clear hfr hown hlen hat
      by_cases hlt : j < n
      · go_wp2_with (at_builtin; refine wpList_append_fr rfl (.tmp 33) (.tmp 34) 32 23 (.int .u64 0) 1 8 rfl u64_slice u64_info rfl (by decide) _ cs'.length _ rfl (HO.out.alloc _) _ 1 [.int .u64 0] rfl (own_one _ _ _ _ rfl) (by intro y hy; simp at hy; subst hy; rfl) (by unfold maxLen; omega) (by omega) ?app2)
        case app2 =>
        intro v' w' hown' hfr' hat'
        have HO' := Lib.hid hown'
        have HF' := Lib.hid hfr'
        have HA' := Lib.hid hat'
        clear hown' hfr' hat'
        go_wp2
        go_roundw
        case rel =>
          refine ⟨j + 1, by omega, by go_num, ?_, ⟨cs' ++ [0], by simpa using HO'.out, by have := HL.out; simp; omega⟩, ?_⟩
          · exact (HF.out.alloc _).trans HF'.out (by intro x hx; exact Or.inr (HA.out x (by simpa using hx)))
          · intro g hg
            have := HF.out.size
            rcases HA'.out g hg with h | h
            · exact HA.out g h
            · first | omega | (simp at h; omega)
        case measure => simp [intOf]; omega
      · obtain rfl : j = n := by omega
        obtain ⟨hA, hB⟩ := GrowRel.cells HW.out HF.out
        have a0 := cell_block hA 0
        have a1 := cell_block hA 1
        have b0 := cell_block hB 0
        have b1 := cell_block hB 1
        have e0 := free_block hB 0
        have e1 := free_block hB 1
        simp at a0 a1 b0 b1
        clear hA hB
        have hfin : ∀ x y, RefOut w (.slice s cs.length c) cs.length k u7 k ((wr.drew.setCell ⟨w.heap.size + 1, 0, none⟩ x).setCell ⟨w.heap.size + 1, 1, none⟩ y) := by
          intro x y
          have hS := HS.out
          have hne : ∀ o, u7.ownBlock ≠ some (⟨w.heap.size + 1, o, none⟩ : Addr).block := by intro o h; have := HA.out _ h; simp at this; omega
          have hF : Fr [] w wr := (by rw [HW.out] at HF; exact (((Fr.refl [] w).alloc _).alloc _).trans HF.out (by simp))
          refine ⟨⟨cs', ownsRow_setCell_other (ownsRow_setCell_other (w := wr.drew) HO.out (hne 0) _) (hne 1) _, by have := HL.out; omega⟩, ⟨by omega, by omega⟩, ?_, ?_⟩
          · exact (hF.drew.setCell (Or.inr (by simp)) _).setCell (Or.inr (by simp)) _
          · intro q hq
            have := HA.out q hq
            exact Or.inr (by omega)
        have HFIN := Lib.hid hfin
        obtain ⟨s', n', c', rfl⟩ : ∃ s' n' c', u7 = .slice s' n' c' := by
          rcases ownsRow_form HO.out with ⟨rfl, hn⟩ | ⟨g, c, rfl, _, _⟩ <;> exact ⟨_, _, _, rfl⟩
        clear hfin
        go_wp2_with fail
        go_region_held3 (fun w' => w'.cell? ⟨w.heap.size, 0, none⟩ = some (.slice s cs.length c) ∧ w'.cell? ⟨w.heap.size, 1, none⟩ = some (.int .i64 k)) (go_keep) (fail)
        go_wp2
        refine bodyPost_ret (v := .tuple #[.agg #[.slice s' n' c', .int .i64 k], .int .i64 cs.length, .int .i64 0]) (by simp [results, Try.results24, go_sem, *]) rfl ⟨_, _, _, _, rfl, ?_⟩
        exact HFIN.out _ _
end Go.Proofs.Ytpnoibgcnjbokaa
