/- PACKAGE epoch: contracts of past and Free -/
import Derived.Test.YtphniphlflijeaaEpochFree
namespace Go.Proofs.Ytphniphlflijeaa
open Go.RowKit Go.Maps
set_option linter.unusedVariables false
set_option linter.unusedSimpArgs false

/-! a sorted row, cut by epochs -/
theorem cut_sorted (e : Int) (L : List Int) (he : ∀ z ∈ L, e < z) : ∀ (row : List (Int × Int)), row.Pairwise (fun x y => x.2 ≤ y.2) →
    row.filter (fun x => decide (x.2 ∈ e :: L)) = row.filter (fun x => decide (x.2 = e)) ++ row.filter (fun x => decide (x.2 ∈ L))
  | [], _ => rfl
  | x :: r, h => by
    obtain ⟨h1, h2⟩ := List.pairwise_cons.1 h
    have ih := cut_sorted e L he r h2
    by_cases hx : x.2 = e
    · have hn : ¬ x.2 ∈ L := fun hm => by have := he _ hm; omega
      rw [List.filter_cons_of_pos (by simp [hx]), List.filter_cons_of_pos (by simpa using hx), List.filter_cons_of_neg (by simpa using hn), ih]
      rfl
    · by_cases hm : x.2 ∈ L
      · have hlt := he _ hm
        have hnil : r.filter (fun x => decide (x.2 = e)) = [] := by
          rw [List.filter_eq_nil_iff]
          intro y hy
          have := h1 y hy
          simp; omega
        rw [List.filter_cons_of_pos (by simp [hm]), List.filter_cons_of_neg (by simpa using hx), List.filter_cons_of_pos (by simpa using hm), ih, hnil]
        rfl
      · rw [List.filter_cons_of_neg (by simp [hx, hm]), List.filter_cons_of_neg (by simpa using hx), List.filter_cons_of_neg (by simpa using hm), ih]
theorem flat_sorted (row : List (Int × Int)) (hr : row.Pairwise (fun x y => x.2 ≤ y.2)) : ∀ (L : List Int), L.Pairwise (· < ·) → L.flatMap (atE row) = (row.filter (fun x => decide (x.2 ∈ L))).map (·.1)
  | [], _ => by simp
  | e :: L, h => by
    obtain ⟨h1, h2⟩ := List.pairwise_cons.1 h
    rw [List.flatMap_cons, flat_sorted row hr L h2, cut_sorted e L h1 row hr, List.map_append]
    rfl
theorem flat_len (row : List (Int × Int)) (hr : row.Pairwise (fun x y => x.2 ≤ y.2)) (L : List Int) (h : L.Pairwise (· < ·)) : (L.flatMap (atE row)).length ≤ row.length := by
  rw [flat_sorted row hr L h, List.length_map]; exact List.length_filter_le _ _
theorem sorted_strict {l : List Int} (h : l.Nodup) : (l.mergeSort fun x y => decide (x ≤ y)).Pairwise (· < ·) := by
  have h1 := List.pairwise_mergeSort (le := fun x y : Int => decide (x ≤ y)) (fun a b c h1 h2 => by simp at h1 h2 ⊢; omega) (fun a b => by simp; omega) l
  have h2 : (l.mergeSort fun x y => decide (x ≤ y)).Nodup := (List.mergeSort_perm l _).nodup_iff.2 h
  refine (List.pairwise_and_iff.2 ⟨h1, h2⟩).imp ?_
  intro a b ⟨h3, h4⟩
  simp at h3
  omega

theorem int_slice : Try.prog.underlying 26 = some (.slice 3) := Try.underlying26
theorem int_info : (Try.prog.info? 3).map (fun i => (i.zero, i.size, i.bytes)) = some (some (.int .i64 0), 1, 8) := by kernel_rfl

/-- what past leaves -/
def PastIs (w : World) (A : PA) (e : Ending) (w' : World) : Prop :=
  ∃ (v : Value) (L : List Int), e = .returned v ∧ Lies w' 3 1 v L.length (L.map (Value.int .i64)) ∧ (∀ k, v.ownBlock = some k → w.heap.size ≤ k) ∧ Fr [] w w' ∧ L.Pairwise (· < ·) ∧ ∀ z, z ∈ L ↔ (∃ x ∈ A.row, x.2 = z) ∧ z + 2 ≤ A.ep

/-- the epochs that are gathered so far -/
structure Gathers (w wr : World) (A : PA) (M : Int → Option Value) (left : Int → Bool) (cnt : Nat) (v : Value) (ks : List Int) : Prop where
  own : wr.ownsRow 0 3 1 v ks.length (ks.map (Value.int .i64))
  new : ∀ k, v.ownBlock = some k → w.heap.size < k
  fr : Fr [] w wr
  nd : ks.Nodup
  mem : ∀ z, z ∈ ks ↔ ((Lit.int .i64 z).wf = true ∧ (M z).isSome = true ∧ left z = false ∧ z + 2 ≤ A.ep)
  len : ks.length + cnt ≤ A.cnt

theorem Gathers.skip {w wr w1 : World} {A : PA} {M : Int → Option Value} {left : Int → Bool} {cnt cnt1 : Nat} {v : Value} {ks : List Int} (h : Gathers w wr A M left cnt v ks) {x : Int} (hx : ¬ x + 2 ≤ A.ep) (hc : cnt1 ≤ cnt) (hf : Fr [w.heap.size] wr w1) :
    Gathers w w1 A M (fun z => left z && !decide (z = x)) cnt1 v ks := by
  refine ⟨ownsRow_fr hf h.own ?_, h.new, h.fr.trans hf (by simp), h.nd, fun z => ?_, by have := h.len; omega⟩
  · intro k hk; have := h.new k hk; simp; omega
  · rw [h.mem z]
    try dsimp only
    by_cases hzx : z = x
    · subst hzx; simp [hx]
    · simp [hzx]
theorem Gathers.more {w wr w1 w2 : World} {A : PA} {M : Int → Option Value} {left : Int → Bool} {cnt cnt1 : Nat} {v v2 : Value} {ks : List Int} (h : Gathers w wr A M left cnt v ks) {x : Int} (hr : w.heap.size < wr.heap.size) (hwf : (Lit.int .i64 x).wf = true) (hM : (M x).isSome = true) (hl : left x = true) (hx : x + 2 ≤ A.ep) (hc : cnt1 < cnt) (hf : Fr [w.heap.size] wr w1)
    (ho : w2.ownsRow 0 3 1 v2 (ks.length + 1) (ks.map (Value.int .i64) ++ [.int .i64 x])) (hf2 : Fr v.ownBlock.toList w1 w2) (hn : ∀ k, v2.ownBlock = some k → v.ownBlock = some k ∨ w1.heap.size ≤ k) :
    Gathers w w2 A M (fun z => left z && !decide (z = x)) cnt1 v2 (ks ++ [x]) := by
  have hsz := h.fr.size
  have hsz1 := hf.size
  refine ⟨by simpa using ho, ?_, (h.fr.trans hf (by simp)).trans hf2 ?_, ?_, fun z => ?_, by have := h.len; simp; omega⟩
  · intro k hk
    rcases hn k hk with h' | h'
    · exact h.new k h'
    · omega
  · intro k hk; right; have := h.new k (by simpa using hk); omega
  · rw [List.nodup_append]
    refine ⟨h.nd, by simp, ?_⟩
    intro a ha b hb e
    simp at hb
    subst hb; subst e
    have := ((h.mem _).1 ha).2.2.1
    rw [hl] at this; cases this
  · rw [List.mem_append, List.mem_singleton, h.mem z]
    try dsimp only
    by_cases hzx : z = x
    · subst hzx; simp [hx, hwf, hM]
    · simp [hzx]

theorem epoch_past (w : World) (p : Nat) {S A} (hp : Pool w p S A) (hA : RowOk A) :
    Calls Try.prog 27 #[.pointer (some ⟨p, 0, none⟩)] w (PastIs w A) := by
  obtain ⟨tb, m, M, h⟩ := hp
  obtain ⟨c0, c1, c2, _⟩ := cells3 h.blk
  have H := Lib.hid h
  have HA := Lib.hid hA
  have hcnt := hA.cnt
  have HMAP := Lib.hid h.map
  have hmlt := h.map.lt
  clear h hA
  go_enter Try.func27, Try.ntmps27
  go_wp2_with (at_range; refine wpList_range_map rfl _ 50 rfl 3 39 int_key pool_map m A.cnt M rfl HMAP.out ?_; intro w0 cnt0 hrg0 hg0)
  go_frame
  go_loopw [3] (fun v wr => ∃ (left : Int → Bool) (cnt : Nat) (ks : List Int), RangeIs Try.prog 3 wr m w.heap.size A.cnt M left cnt ∧ Gathers w wr A M left cnt v ks) (fun _ wr => wr.rangeLeft m w.heap.size)
  case atStart =>
    refine ⟨_, _, [], hrg0, ⟨World.ownsRow_nil _ _ _ _, (by intro k hk; cases hk), hg0, by simp, fun z => ?_, by have := hrg0.cnt_le; simpa using this⟩⟩
    simp only [List.not_mem_nil, false_iff, not_and]
    intro _ h1 h2
    rw [h1] at h2; cases h2
  case round =>
    obtain ⟨left, cnt, ks, hrg, hG⟩ := hrel
    have HRG := Lib.hid hrg
    have HG := Lib.hid hG
    have hlen := hG.len
    have hform := ownsRow_form hG.own
    have hrlt := hrg.ltR
    have d0 := hG.fr.cell c0 (by simp)
    clear hrg hG
    go_wp2_with (at_next; refine wpList_next_map rfl _ rfl 3 int_key m w.heap.size A.cnt M left cnt rfl HRG.out ?_ ?_)
    · intro hl0
      have hmem : ∀ z, z ∈ ks ↔ (∃ x ∈ A.row, x.2 = z) ∧ z + 2 ≤ A.ep := by
        intro z
        rw [HG.out.mem z, H.out.rows.has z]
        constructor
        · rintro ⟨_, h1, _, h2⟩; exact ⟨h1, h2⟩
        · rintro ⟨⟨x, hx, rfl⟩, h2⟩; have hw := HA.out.wf hx; exact ⟨hw, ⟨x, hx, rfl⟩, hl0 _ hw, h2⟩
      have HMEM := Lib.hid hmem
      clear hl0 hmem
      rcases hform with ⟨rfl, hn⟩ | ⟨g, c, rfl, hg, hc⟩
      · have hks : ks = [] := List.eq_nil_of_length_eq_zero hn
        subst hks
        go_wp2_with (go_at_call 29; refine (Try.slices_Sort_int_none none 0 _).mono ?_; rintro e w1 ⟨rfl, rfl⟩)
        go_ret
        exact ⟨_, [], rfl, Lies.nil _ _ _, (by intro k hk; cases hk), HG.out.fr, (by simp), HMEM.out⟩
      · have hH : Sort.Holds (Value.int .i64) wr g 0 ks.toArray := by
          rcases HG.out.own.2 with ⟨h0, _⟩ | ⟨g', cap, cur, hv, _, hh, h5, h6, h7, h8⟩
          · cases h0
          · cases hv; exact holds_of_blockI hh (by simpa using h8)
        have HC := Lib.hid (Try.slices_Sort_int g 0 c ks wr hH hg (by omega))
        clear hH
        go_wp2_with (go_at_call 29; refine HC.out.mono ?_; rintro e w1 ⟨rfl, n1, os, rfl⟩)
        go_ret
        have hperm := List.mergeSort_perm ks (fun x y => decide (x ≤ y))
        refine ⟨_, ks.mergeSort (fun x y => decide (x ≤ y)), rfl, ?_, ?_, ?_, sorted_strict HG.out.nd, fun z => ?_⟩
        · rcases HG.out.own.2 with ⟨h0, _⟩ | ⟨g', cap, cur, hv, hb0, hh, h5, h6, h7, h8⟩
          · cases h0
          · cases hv
            have := ownsRow_sortedI (n := n1) (os := os) (ss := ks) (ts := ks.mergeSort (fun x y => decide (x ≤ y))) hperm.length_eq hb0 hh h5 h6 h7
            rw [hperm.length_eq]
            exact Lies.of_own this
        · intro k hk; exact Nat.le_of_lt (HG.out.new k hk)
        · exact HG.out.fr.trans (fr_grown (grownBy_sortedI _)) (by intro k hk; simp at hk; subst hk; right; exact Nat.le_of_lt (HG.out.new _ rfl))
        · rw [hperm.mem_iff]; exact HMEM.out z
    · intro x a1 a2 a3 w1 cnt1 hwx hlx hM hrg1 hlt hf1 hen
      have hMs : (M x).isSome = true := by rw [hM]; rfl
      obtain ⟨y, hy, hyx⟩ := (H.out.rows.has x).1 hMs
      have hbd := HA.out.row y hy
      have hep := HA.out.ep1
      rw [hyx] at hbd
      have hwrap : IntKind.i64.wrap (A.ep - x) = A.ep - x := IntWalk.i64_in _ ⟨by omega, by omega⟩
      have e0 := hf1.cell d0 (by simp; intro e; subst e; have := lt_of_block H.out.blk; omega)
      have hmeas : w1.rangeLeft m w.heap.size < wr.rangeLeft m w.heap.size := by rw [hrg1.left_eq, HRG.out.left_eq]; exact hlt
      have HME := Lib.hid hmeas
      have HR1 := Lib.hid hrg1
      have HF1 := Lib.hid hf1
      have HMS := Lib.hid hMs
      have HWX := Lib.hid hwx
      have HLX := Lib.hid hlx
      clear hM hrg1 hf1 hmeas hy hyx hMs hwx hlx
      by_cases hx : x + 2 ≤ A.ep
      · have t1 : decide (2 ≤ A.ep - x) = true := by simp; omega
        have hown1 := ownsRow_fr HF1.out HG.out.own (by intro k hk; have := HG.out.new k hk; simp; omega)
        have HO := Lib.hid hown1
        clear hown1
        go_wp2_with (at_builtin; refine wpList_append_fr rfl (.tmp 21) (.tmp 23) 26 3 (.int .i64 0) 1 8 rfl int_slice int_info rfl (by decide) _ ks.length _ rfl (HO.out.alloc _) _ 1 [.int .i64 x] rfl (own_one _ _ _ _ rfl) (one_int _ _) (by unfold maxLen; omega) (by omega) ?app)
        case app =>
        intro v2 w2 ho2 hf2 hn2
        have hfa : Fr [] w1 (w1.alloc (.cells #[.int .i64 x] 3)) := (Fr.refl [] w1).alloc _
        have hsz1 := HF1.out.size
        have hsep : ∀ k, k ∈ Option.toList (Value.ownBlock _) → w.heap.size < k := fun k hk => HG.out.new k (by simpa using hk)
        have hf12 : Fr _ w1 w2 := (hfa.mono (by simp)).trans hf2 (fun k hk => Or.inl hk)
        have HG2 := Lib.hid (HG.out.more hrlt HWX.out HMS.out HLX.out hx hlt HF1.out ho2 hf12 (by intro k hk; rcases hn2 k hk with h | h; exact Or.inl h; right; first | omega | (simp at h; omega)))
        have HR2 := Lib.hid (HR1.out.keep hf12 (by intro hk; have := hsep _ hk; omega) (by intro hk; have := hsep _ hk; omega))
        clear ho2 hf2 hn2 hfa hf12 hsep
        go_wp2
        go_roundw
        case rel => exact ⟨_, cnt1, _, HR2.out, HG2.out⟩
        case measure => rw [HR2.out.left_eq, HRG.out.left_eq]; exact hlt
      · have t1 : decide (2 ≤ A.ep - x) = false := by simp; omega
        have HG2 := Lib.hid (HG.out.skip hx (Nat.le_of_lt hlt) HF1.out)
        go_wp2
        go_roundw
        case rel => exact ⟨_, cnt1, _, HR1.out, HG2.out⟩
        case measure => exact HME.out
end Go.Proofs.Ytphniphlflijeaa
