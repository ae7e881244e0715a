/- ROWS OF STRINGS: a sorted row without its doubles; the rows in memory behind the library's sort, and behind its Compact. -/
import Derived.Test.YtjclbgeclopheaaTxAt
import Derived.Test.YtjclbgeclopheaaEvSel
import Derived.Test.YtjclbgeclopheaaMapS
import Derived.Sort.OwnSorted
import Derived.Lib.SlicesCompact
namespace Go.Proofs.Ytjclbgeclopheaa
open Go.RowKit Go.Sort
set_option linter.unusedVariables false
set_option linter.unusedSimpArgs false

/-! plainly -/
/-- ks are l's, each once, rising -/
structure Gath (l ks : List ByteArray) : Prop where
  rise : ks.Pairwise (fun a b => kl a b = true)
  mem : ∀ k, k ∈ ks ↔ k ∈ l
theorem Gath.nodup {l ks : List ByteArray} (h : Gath l ks) : ks.Nodup := h.rise.imp fun hab => kl_ne hab
theorem sub_len {α : Type} [DecidableEq α] : ∀ {ks l : List α}, ks.Nodup → (∀ k ∈ ks, k ∈ l) → ks.length ≤ l.length
  | [], l, _, _ => by simp
  | a :: r, l, hn, h => by
    rw [List.nodup_cons] at hn
    have ha : a ∈ l := h a (by simp)
    have h1 := sub_len (ks := r) (l := l.erase a) hn.2 (fun k hk => (List.mem_erase_of_ne (by rintro rfl; exact hn.1 hk)).2 (h k (List.mem_cons_of_mem _ hk)))
    rw [List.length_erase_of_mem ha] at h1
    have : 0 < l.length := List.length_pos_of_mem ha
    simp only [List.length_cons]; omega
theorem len_nodup {α : Type} [DecidableEq α] : ∀ {l ks : List α}, ks.Nodup → (∀ k, k ∈ ks ↔ k ∈ l) → ks.length = l.length → l.Nodup
  | [], _, _, _, _ => List.nodup_nil
  | a :: r, ks, hn, h, he => by
    have ha : a ∉ r := by
      intro har
      have := sub_len (ks := ks) (l := r) hn (fun k hk => by
        rcases List.mem_cons.1 ((h k).1 hk) with rfl | h1
        · exact har
        · exact h1)
      simp at he; omega
    have hak : a ∈ ks := (h a).2 (by simp)
    refine List.nodup_cons.2 ⟨ha, len_nodup (ks := ks.erase a) (hn.erase a) (fun k => ?_) ?_⟩
    · rw [hn.mem_erase_iff, h]
      constructor
      · rintro ⟨h1, h2⟩
        rcases List.mem_cons.1 h2 with h3 | h3
        · exact absurd h3 h1
        · exact h3
      · intro hk
        exact ⟨by rintro rfl; exact ha hk, List.mem_cons_of_mem _ hk⟩
    · rw [List.length_erase_of_mem hak, he]; simp
theorem Gath.le {l ks : List ByteArray} (h : Gath l ks) : ks.length ≤ l.length := sub_len h.nodup fun k hk => (h.mem k).1 hk
/-- as many as there were, just if none was there twice -/
theorem Gath.len {l ks : List ByteArray} (h : Gath l ks) : decide (ks.length = l.length) = decide (l.Nodup) := by
  rw [decide_eq_decide]
  constructor
  · exact len_nodup h.nodup h.mem
  · intro hn
    exact Nat.le_antisymm h.le (sub_len hn fun k hk => (h.mem k).2 hk)
theorem Gath.nil : Gath [] [] := ⟨List.Pairwise.nil, fun k => Iff.rfl⟩

def baL (x : List UInt8) : ByteArray := ⟨x.toArray⟩
theorem baL_list (x : ByteArray) : baL x.data.toList = x := by cases x; simp [baL]
theorem kl_baL {a b : List UInt8} (h : a < b) : kl (baL a) (baL b) = true := by
  unfold kl baL
  simp only [ByteArray.toList_eq, ls_lt, decide_eq_true_eq]
  exact h
/-- of a row that doesn't fall, those that aren't what stands ahead of them -/
theorem keeps_all {d : Array (List UInt8)} {m j : Nat} (hm : m ≤ d.size) (hj : j < m) : d[j]! ∈ Lib.compactUpTo d m := by
  induction m generalizing j with
  | zero => omega
  | succ m ih =>
    rw [Lib.compactUpTo_succ, List.mem_append]
    by_cases h : j < m
    · exact Or.inl (ih (by omega) h)
    · obtain rfl : j = m := by omega
      cases hk : Lib.keeps d j with
      | true => right; simp
      | false =>
        left
        unfold Lib.keeps at hk
        simp only [decide_eq_false_iff_not, not_or, ne_eq, Decidable.not_not] at hk
        rw [hk.2]
        exact ih (by omega) (by omega)
theorem compact_sorted {zs : List (List UInt8)} (hs : zs.Pairwise (fun a b => a ≤ b)) : (Lib.compact zs).Pairwise (fun a b => a < b) ∧ ∀ x, x ∈ Lib.compact zs ↔ x ∈ zs := by
  have hget : ∀ j, j < zs.length → zs.toArray[j]! = zs[j]! := fun j hj => by simp [hj]
  have hle : ∀ i j, i ≤ j → j < zs.length → zs.toArray[i]! ≤ zs.toArray[j]! := by
    intro i j hij hj
    rcases Nat.lt_or_eq_of_le hij with h | rfl
    · have := List.pairwise_iff_getElem.1 hs i j (by omega) hj h
      simpa [getElem!_pos, hj, show i < zs.length by omega] using this
    · exact List.le_refl _
  refine ⟨?_, fun x => ⟨fun hx => ?_, fun hx => ?_⟩⟩
  · unfold Lib.compact Lib.compactUpTo
    rw [List.pairwise_map]
    have hr : (List.range zs.length).Pairwise (fun a b => a < b) := List.pairwise_lt_range
    refine ((hr.filter _).imp_of_mem fun {i j} hi hj hij => ?_)
    simp only [List.mem_filter, List.mem_range] at hi hj
    have hk := hj.2
    unfold Lib.keeps at hk
    simp only [decide_eq_true_eq] at hk
    have hne : zs.toArray[j]! ≠ zs.toArray[j - 1]! := by
      rcases hk with h | h
      · omega
      · exact h
    have h1 := hle i (j - 1) (by omega) (by omega)
    have h2 := hle (j - 1) j (by omega) hj.1
    rcases List.le_iff_lt_or_eq.1 h2 with h3 | h3
    · exact List.lt_of_le_of_lt h1 h3
    · exact absurd h3.symm hne
  · unfold Lib.compact Lib.compactUpTo at hx
    obtain ⟨j, hj, rfl⟩ := List.mem_map.1 hx
    simp only [List.mem_filter, List.mem_range] at hj
    rw [hget j hj.1, getElem!_pos zs j hj.1]
    exact List.getElem_mem _
  · obtain ⟨j, hj, rfl⟩ := List.mem_iff_getElem.1 hx
    have := keeps_all (d := zs.toArray) (m := zs.length) (j := j) (by simp) hj
    rw [hget j hj, getElem!_pos zs j hj] at this
    exact this
/-- sorted, and without doubles -/
def sortL (l : List ByteArray) : List (List UInt8) := (l.map (·.data.toList)).mergeSort (fun x y => decide (x ≤ y))
theorem sortL_len (l : List ByteArray) : (sortL l).length = l.length := by unfold sortL; rw [(List.mergeSort_perm _ _).length_eq, List.length_map]
theorem gath_sorted (l : List ByteArray) : Gath l ((Lib.compact (sortL l)).map baL) := by
  have tr : ∀ a b c : List UInt8, decide (a ≤ b) = true → decide (b ≤ c) = true → decide (a ≤ c) = true := fun a b c h1 h2 => by simp only [decide_eq_true_eq] at *; exact List.le_trans h1 h2
  have to : ∀ a b : List UInt8, (decide (a ≤ b) || decide (b ≤ a)) = true := fun a b => by simp only [Bool.or_eq_true, decide_eq_true_eq]; exact List.le_total a b
  have h1 := List.pairwise_mergeSort (le := fun x y : List UInt8 => decide (x ≤ y)) tr to (l.map (·.data.toList))
  obtain ⟨h2, h3⟩ := compact_sorted (zs := sortL l) (h1.imp fun h => by simpa using h)
  refine ⟨List.pairwise_map.2 (h2.imp fun h => kl_baL h), fun k => ?_⟩
  rw [List.mem_map]
  have key : ∀ x, x ∈ Lib.compact (sortL l) ↔ x ∈ l.map (·.data.toList) := fun x => by rw [h3]; unfold sortL; exact (List.mergeSort_perm _ _).mem_iff
  constructor
  · rintro ⟨x, hx, rfl⟩
    obtain ⟨y, hy, rfl⟩ := List.mem_map.1 ((key x).1 hx)
    rw [baL_list]; exact hy
  · intro hk
    exact ⟨_, (key _).2 (List.mem_map.2 ⟨k, hk, rfl⟩), baL_list k⟩

/-! in memory -/
theorem str_info : (Try.prog.info? 9).map (fun i => (i.zero, i.size, i.bytes)) = some (some (.string ⟨#[]⟩), 1, 16) := by kernel_rfl
theorem allC_st (l : List ByteArray) : allC stC l = l.map Value.string := by
  unfold allC stC
  induction l with
  | nil => rfl
  | cons x r ih => simp only [List.map_cons, List.flatten_cons, ih]; rfl
theorem encStr_st (l : List ByteArray) : (l.map (·.data.toList)).map encStr = l.map Value.string := by
  rw [List.map_map]
  exact List.map_congr_left fun x _ => by simp [encStr]
/-- what lies there is what a sort wants -/
theorem holds_st {w : World} {e : TypeId} {g off c : Nat} {l : List ByteArray} (h : LAt stC e 1 w (.slice (some ⟨g, off, none⟩) l.length c) l) : Holds encStr w g off (l.map (·.data.toList)).toArray := by
  intro j hj
  have hj' : j < l.length := by simpa using hj
  obtain ⟨g', off', c', hv, h1, h2, h3⟩ := LAt.here h stC_len (by omega)
  simp only [Value.slice.injEq, Option.some.injEq, Addr.mk.injEq, and_true, true_and] at hv
  obtain ⟨⟨rfl, rfl⟩, rfl⟩ := hv
  obtain ⟨h4, h5⟩ := h3 j l[j] (List.getElem?_eq_getElem hj') 0 (by decide)
  simp only [Nat.mul_one, Nat.add_zero] at h4 h5
  refine ⟨?_, h5⟩
  rw [h4]
  simp [stC, hj', encStr]
theorem fr_putRow (w : World) (g off n : Nat) (d : Array (List UInt8)) : Fr [g] w (putRow encStr (Sort.ahead w n) g off d) := by
  refine ⟨rfl, rfl, rfl, by simp [putRow, mapBlock, Sort.ahead], fun k hk hne => ?_⟩
  have : g ≠ k := fun e => hne (by simp [e])
  simp [putRow, mapBlock, Sort.ahead, Array.getElem?_modify, this]
theorem fr_growO (w : World) (os : Array Obj) : Fr [] w (grow w os) := by
  refine ⟨rfl, rfl, rfl, by simp, fun k hk _ => ?_⟩
  rw [heap_grow_old _ _ hk]
theorem Holds.keep {w w' : World} {g off : Nat} {d : Array (List UInt8)} (h : Holds encStr w g off d) (hf : Fr [] w w') : Holds encStr w' g off d := by
  intro j hj
  obtain ⟨h1, h2⟩ := h j hj
  have hb : w'.heap[g]? = w.heap[g]? := hf.block g (World.block_lt_of_cell? w ⟨g, off + j, none⟩ h1) (by simp)
  refine ⟨hf.cell h1 (by simp), ?_⟩
  rw [← h2]
  unfold World.frozen?
  rw [hb]
/-- what a sort left can be read -/
theorem StIn.of_holds {w : World} {g off c n : Nat} {d : Array (List UInt8)} (h : Holds encStr w g off d) (hn : n ≤ d.size) (hc : n ≤ c) (hm : c ≤ maxLen) : StIn w (.slice (some ⟨g, off, none⟩) n c) ((d.toList.take n).map baL) := by
  have hl : ((d.toList.take n).map baL).length = n := by simp; omega
  refine ⟨some ⟨g, off, none⟩, c, by rw [hl], by rw [hl]; exact hc, hm, fun h0 => ?_⟩
  rw [hl] at h0
  refine ⟨g, off, rfl, World.block_lt_of_cell? w ⟨g, off + 0, none⟩ (h 0 (by omega)).1, fun i x hx j hj => ?_⟩
  obtain rfl : j = 0 := by omega
  have hi : i < n := by rw [← hl]; exact (List.getElem?_eq_some_iff.1 hx).1
  have h1 := (h i (by omega)).1
  simp only [Nat.mul_one, Nat.add_zero]
  rw [h1]
  rw [List.getElem?_map, List.getElem?_take_of_lt hi] at hx
  have hd : i < d.size := by omega
  simp [hd] at hx
  subst hx
  simp [stC, encStr, baL, hd]
end Go.Proofs.Ytjclbgeclopheaa
