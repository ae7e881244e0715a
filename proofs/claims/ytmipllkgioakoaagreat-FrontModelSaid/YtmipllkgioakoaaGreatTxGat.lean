/- ROWS OF STRINGS: a sorted row without its doubles; the rows in memory behind the library's sort, and behind its Compact.
PACKAGE txn: compared, changed: contracts (written by gen_txlst.py)
PACKAGE slices at strings: Grow, Concat: contracts
PACKAGE txn: gather: contract -/
import Derived.Test.YtmipllkgioakoaaGreatTxAt
import Derived.Test.YtmipllkgioakoaaGreatEvSel
import Derived.Test.YtmipllkgioakoaaGreatMapS
import Derived.Sort.OwnSorted
import Derived.Lib.SlicesCompact
import Derived.Lib.AppendZeros
import Derived.WalkSpells
import Derived.Test.YtmipllkgioakoaaGreatIter
import Derived.Test.YtmipllkgioakoaaGreatShelf
namespace Go.Proofs.YtmipllkgioakoaaGreat
open Go.RowKit Go.Sort
set_option linter.unusedVariables false
set_option linter.unusedSimpArgs false

/-! plainly -/
/-- ks are l's, each once, rising -/
structure Gath (l ks : List ByteArray) : Prop where
  rise : ks.Pairwise (fun a b => kl a b = true)
  mem : ∀ k, k ∈ ks ↔ k ∈ l
theorem Gath.nodup {l ks : List ByteArray} (h : Gath l ks) : ks.Nodup := h.rise.imp fun hab => kl_ne hab
theorem sub_len {α : Type} [DecidableEq α] : ∀ {ks l : List α}, ks.Nodup → (∀ k ∈ ks, k ∈ l) → ks.length ≤ l.length
  | [], l, _, _ => by simp
  | a :: r, l, hn, h => by
    rw [List.nodup_cons] at hn
    have ha : a ∈ l := h a (by simp)
    have h1 := sub_len (ks := r) (l := l.erase a) hn.2 (fun k hk => (List.mem_erase_of_ne (by rintro rfl; exact hn.1 hk)).2 (h k (List.mem_cons_of_mem _ hk)))
    rw [List.length_erase_of_mem ha] at h1
    have : 0 < l.length := List.length_pos_of_mem ha
    simp only [List.length_cons]; omega
theorem len_nodup {α : Type} [DecidableEq α] : ∀ {l ks : List α}, ks.Nodup → (∀ k, k ∈ ks ↔ k ∈ l) → ks.length = l.length → l.Nodup
  | [], _, _, _, _ => List.nodup_nil
  | a :: r, ks, hn, h, he => by
    have ha : a ∉ r := by
      intro har
      have := sub_len (ks := ks) (l := r) hn (fun k hk => by
        rcases List.mem_cons.1 ((h k).1 hk) with rfl | h1
        · exact har
        · exact h1)
      simp at he; omega
    have hak : a ∈ ks := (h a).2 (by simp)
    refine List.nodup_cons.2 ⟨ha, len_nodup (ks := ks.erase a) (hn.erase a) (fun k => ?_) ?_⟩
    · rw [hn.mem_erase_iff, h]
      constructor
      · rintro ⟨h1, h2⟩
        rcases List.mem_cons.1 h2 with h3 | h3
        · exact absurd h3 h1
        · exact h3
      · intro hk
        exact ⟨by rintro rfl; exact ha hk, List.mem_cons_of_mem _ hk⟩
    · rw [List.length_erase_of_mem hak, he]; simp
theorem Gath.le {l ks : List ByteArray} (h : Gath l ks) : ks.length ≤ l.length := sub_len h.nodup fun k hk => (h.mem k).1 hk
/-- as many as there were, just if none was there twice -/
theorem Gath.len {l ks : List ByteArray} (h : Gath l ks) : decide (ks.length = l.length) = decide (l.Nodup) := by
  rw [decide_eq_decide]
  constructor
  · exact len_nodup h.nodup h.mem
  · intro hn
    exact Nat.le_antisymm h.le (sub_len hn fun k hk => (h.mem k).2 hk)
theorem Gath.nil : Gath [] [] := ⟨List.Pairwise.nil, fun k => Iff.rfl⟩

def baL (x : List UInt8) : ByteArray := ⟨x.toArray⟩
theorem baL_list (x : ByteArray) : baL x.data.toList = x := by cases x; simp [baL]
theorem kl_baL {a b : List UInt8} (h : a < b) : kl (baL a) (baL b) = true := by
  unfold kl baL
  simp only [ByteArray.toList_eq, ls_lt, decide_eq_true_eq]
  exact h
/-- of a row that doesn't fall, those that aren't what stands ahead of them -/
theorem keeps_all {d : Array (List UInt8)} {m j : Nat} (hm : m ≤ d.size) (hj : j < m) : d[j]! ∈ Lib.compactUpTo d m := by
  induction m generalizing j with
  | zero => omega
  | succ m ih =>
    rw [Lib.compactUpTo_succ, List.mem_append]
    by_cases h : j < m
    · exact Or.inl (ih (by omega) h)
    · obtain rfl : j = m := by omega
      cases hk : Lib.keeps d j with
      | true => right; simp
      | false =>
        left
        unfold Lib.keeps at hk
        simp only [decide_eq_false_iff_not, not_or, ne_eq, Decidable.not_not] at hk
        rw [hk.2]
        exact ih (by omega) (by omega)
theorem compact_sorted {zs : List (List UInt8)} (hs : zs.Pairwise (fun a b => a ≤ b)) : (Lib.compact zs).Pairwise (fun a b => a < b) ∧ ∀ x, x ∈ Lib.compact zs ↔ x ∈ zs := by
  have hget : ∀ j, j < zs.length → zs.toArray[j]! = zs[j]! := fun j hj => by simp [hj]
  have hle : ∀ i j, i ≤ j → j < zs.length → zs.toArray[i]! ≤ zs.toArray[j]! := by
    intro i j hij hj
    rcases Nat.lt_or_eq_of_le hij with h | rfl
    · have := List.pairwise_iff_getElem.1 hs i j (by omega) hj h
      simpa [getElem!_pos, hj, show i < zs.length by omega] using this
    · exact List.le_refl _
  refine ⟨?_, fun x => ⟨fun hx => ?_, fun hx => ?_⟩⟩
  · unfold Lib.compact Lib.compactUpTo
    rw [List.pairwise_map]
    have hr : (List.range zs.length).Pairwise (fun a b => a < b) := List.pairwise_lt_range
    refine ((hr.filter _).imp_of_mem fun {i j} hi hj hij => ?_)
    simp only [List.mem_filter, List.mem_range] at hi hj
    have hk := hj.2
    unfold Lib.keeps at hk
    simp only [decide_eq_true_eq] at hk
    have hne : zs.toArray[j]! ≠ zs.toArray[j - 1]! := by
      rcases hk with h | h
      · omega
      · exact h
    have h1 := hle i (j - 1) (by omega) (by omega)
    have h2 := hle (j - 1) j (by omega) hj.1
    rcases List.le_iff_lt_or_eq.1 h2 with h3 | h3
    · exact List.lt_of_le_of_lt h1 h3
    · exact absurd h3.symm hne
  · unfold Lib.compact Lib.compactUpTo at hx
    obtain ⟨j, hj, rfl⟩ := List.mem_map.1 hx
    simp only [List.mem_filter, List.mem_range] at hj
    rw [hget j hj.1, getElem!_pos zs j hj.1]
    exact List.getElem_mem _
  · obtain ⟨j, hj, rfl⟩ := List.mem_iff_getElem.1 hx
    have := keeps_all (d := zs.toArray) (m := zs.length) (j := j) (by simp) hj
    rw [hget j hj, getElem!_pos zs j hj] at this
    exact this
/-- sorted, and without doubles -/
def sortL (l : List ByteArray) : List (List UInt8) := (l.map (·.data.toList)).mergeSort (fun x y => decide (x ≤ y))
theorem sortL_len (l : List ByteArray) : (sortL l).length = l.length := by unfold sortL; rw [(List.mergeSort_perm _ _).length_eq, List.length_map]
theorem gath_sorted (l : List ByteArray) : Gath l ((Lib.compact (sortL l)).map baL) := by
  have tr : ∀ a b c : List UInt8, decide (a ≤ b) = true → decide (b ≤ c) = true → decide (a ≤ c) = true := fun a b c h1 h2 => by simp only [decide_eq_true_eq] at *; exact List.le_trans h1 h2
  have to : ∀ a b : List UInt8, (decide (a ≤ b) || decide (b ≤ a)) = true := fun a b => by simp only [Bool.or_eq_true, decide_eq_true_eq]; exact List.le_total a b
  have h1 := List.pairwise_mergeSort (le := fun x y : List UInt8 => decide (x ≤ y)) tr to (l.map (·.data.toList))
  obtain ⟨h2, h3⟩ := compact_sorted (zs := sortL l) (h1.imp fun h => by simpa using h)
  refine ⟨List.pairwise_map.2 (h2.imp fun h => kl_baL h), fun k => ?_⟩
  rw [List.mem_map]
  have key : ∀ x, x ∈ Lib.compact (sortL l) ↔ x ∈ l.map (·.data.toList) := fun x => by rw [h3]; unfold sortL; exact (List.mergeSort_perm _ _).mem_iff
  constructor
  · rintro ⟨x, hx, rfl⟩
    obtain ⟨y, hy, rfl⟩ := List.mem_map.1 ((key x).1 hx)
    rw [baL_list]; exact hy
  · intro hk
    exact ⟨_, (key _).2 (List.mem_map.2 ⟨k, hk, rfl⟩), baL_list k⟩

/-! in memory -/
theorem str_info : (Tryz.prog.info? 9).map (fun i => (i.zero, i.size, i.bytes)) = some (some (.string ⟨#[]⟩), 1, 16) := by kernel_rfl
theorem allC_st (l : List ByteArray) : allC stC l = l.map Value.string := by
  unfold allC stC
  induction l with
  | nil => rfl
  | cons x r ih => simp only [List.map_cons, List.flatten_cons, ih]; rfl
theorem encStr_st (l : List ByteArray) : (l.map (·.data.toList)).map encStr = l.map Value.string := by
  rw [List.map_map]
  exact List.map_congr_left fun x _ => by simp [encStr]
/-- what lies there is what a sort wants -/
theorem holds_st {w : World} {e : TypeId} {g off c : Nat} {l : List ByteArray} (h : LAt stC e 1 w (.slice (some ⟨g, off, none⟩) l.length c) l) : Holds encStr w g off (l.map (·.data.toList)).toArray := by
  intro j hj
  have hj' : j < l.length := by simpa using hj
  obtain ⟨g', off', c', hv, h1, h2, h3⟩ := LAt.here h stC_len (by omega)
  simp only [Value.slice.injEq, Option.some.injEq, Addr.mk.injEq, and_true, true_and] at hv
  obtain ⟨⟨rfl, rfl⟩, rfl⟩ := hv
  obtain ⟨h4, h5⟩ := h3 j l[j] (List.getElem?_eq_getElem hj') 0 (by decide)
  simp only [Nat.mul_one, Nat.add_zero] at h4 h5
  refine ⟨?_, h5⟩
  rw [h4]
  simp [stC, hj', encStr]
theorem fr_putRow (w : World) (g off n : Nat) (d : Array (List UInt8)) : Fr [g] w (putRow encStr (Sort.ahead w n) g off d) := by
  refine ⟨rfl, rfl, rfl, by simp [putRow, mapBlock, Sort.ahead], fun k hk hne => ?_⟩
  have : g ≠ k := fun e => hne (by simp [e])
  simp [putRow, mapBlock, Sort.ahead, Array.getElem?_modify, this]
theorem fr_growO (w : World) (os : Array Obj) : Fr [] w (grow w os) := by
  refine ⟨rfl, rfl, rfl, by simp, fun k hk _ => ?_⟩
  rw [heap_grow_old _ _ hk]
theorem Holds.keep {w w' : World} {g off : Nat} {d : Array (List UInt8)} (h : Holds encStr w g off d) (hf : Fr [] w w') : Holds encStr w' g off d := by
  intro j hj
  obtain ⟨h1, h2⟩ := h j hj
  have hb : w'.heap[g]? = w.heap[g]? := hf.block g (World.block_lt_of_cell? w ⟨g, off + j, none⟩ h1) (by simp)
  refine ⟨hf.cell h1 (by simp), ?_⟩
  rw [← h2]
  unfold World.frozen?
  rw [hb]
/-- what a sort left can be read -/
theorem StIn.of_holds {w : World} {g off c n : Nat} {d : Array (List UInt8)} (h : Holds encStr w g off d) (hn : n ≤ d.size) (hc : n ≤ c) (hm : c ≤ maxLen) : StIn w (.slice (some ⟨g, off, none⟩) n c) ((d.toList.take n).map baL) := by
  have hl : ((d.toList.take n).map baL).length = n := by simp; omega
  refine ⟨some ⟨g, off, none⟩, c, by rw [hl], by rw [hl]; exact hc, hm, fun h0 => ?_⟩
  rw [hl] at h0
  refine ⟨g, off, rfl, World.block_lt_of_cell? w ⟨g, off + 0, none⟩ (h 0 (by omega)).1, fun i x hx j hj => ?_⟩
  obtain rfl : j = 0 := by omega
  have hi : i < n := by rw [← hl]; exact (List.getElem?_eq_some_iff.1 hx).1
  have h1 := (h i (by omega)).1
  simp only [Nat.mul_one, Nat.add_zero]
  rw [h1]
  rw [List.getElem?_map, List.getElem?_take_of_lt hi] at hx
  have hd : i < d.size := by omega
  simp [hd] at hx
  subst hx
  simp [stC, encStr, baL, hd]
end Go.Proofs.YtmipllkgioakoaaGreat
namespace Go.Proofs.YtmipllkgioakoaaGreat
open Go.RowKit
set_option linter.unusedVariables false
set_option linter.unusedSimpArgs false

theorem st_slice : Tryz.prog.underlying 106 = some (.slice 9) := Tryz.underlying106
theorem drop_map {α β : Type} {f : α → β} {l : List α} {j : Nat} {x : α} (hx : l[j]? = some x) : (l.drop j).map f = f x :: (l.drop (j + 1)).map f := by
  obtain ⟨h1, rfl⟩ := List.getElem?_eq_some_iff.1 hx
  rw [List.drop_eq_getElem_cons h1, List.map_cons]
set_option maxHeartbeats 1000000 in
theorem tx_changed (lv : Value) (l : List Od) (w : World) (hl : OdIn w lv l) (bl : l.length ≤ many) : Calls Tryz.prog 75 #[lv] w fun e w' => ∃ v, e = .returned v ∧ OutAt stC 9 1 w w' v (l.map Od.key) ∧ Fr [] w w' := by
  unfold many at bl
  obtain ⟨s1, c1, rfl, la, ma⟩ := LIn.form hl
  unfold maxLen at ma
  have HL := Lib.hid hl
  clear hl
  go_enter Tryz.func75, Tryz.ntmps75
  go_wp2_with fail
  go_loopw [3, 8] (fun v i wr => ∃ (j : Nat) (o : List ByteArray), i = .int .i64 j ∧ j ≤ l.length ∧ OutAt stC 9 1 w wr v o ∧ o ++ (l.drop j).map Od.key = l.map Od.key ∧ o.length ≤ j ∧ Fr [] w wr) (fun _ i _ => l.length - (intOf i).toNat)
  case atStart => exact ⟨0, [], rfl, Nat.zero_le _, OutAt.nil _ _, rfl, Nat.zero_le _, Fr.refl _ _⟩
  case round =>
    obtain ⟨j, o, rfl, hj, ho, hs, hol, hf⟩ := hrel
    have HS := Lib.hid hs
    have HO := Lib.hid ho
    have HF := Lib.hid hf
    clear ho hf hs
    by_cases h : j < l.length
    · obtain ⟨x, hx⟩ : ∃ x, l[j]? = some x := ⟨_, List.getElem?_eq_getElem h⟩
      obtain ⟨g, off, d1, e1, _, l1, k1⟩ := OdIn.here (LIn.keep0 HL.out HF.out) (by omega)
      simp only [Value.slice.injEq] at e1
      obtain ⟨rfl, _, rfl⟩ := e1
      obtain ⟨p0, p1, p2⟩ := k1 j x hx
      have HX := Lib.hid hx
      have t1 : decide (j < l.length) = true := by simpa using h
      clear hx k1
      go_wp2_with (at_builtin; refine wpList_append_any rfl (.tmp 12) (.tmp 15) 106 9 (.string ⟨#[]⟩) 1 16 rfl st_slice str_info rfl (by decide) _ o.length (allC stC o) rfl (HO.out.lies.keep0 (((Fr.refl [] _).alloc _).alloc _)) _ 1 (stC x.key) rfl (lies_row (wr.alloc (.cells #[.string x.key, .string x.val, .bool x.del] 87)) 9 (stC x.key) rfl _ (by simp)) (stC_one x.key) (by unfold maxLen; omega) (by omega) ?app)
      case app =>
      intro v' w' h1 h2 h3
      have ha := HO.out.keep (((Fr.refl [] wr).alloc (.cells #[.string x.key, .string x.val, .bool x.del] 87)).alloc (.cells (stC x.key).toArray 9))
      have HA := Lib.hid (OutAt.app ha (by have := HF.out.size; simp; omega) (xs := [x.key]) (by rw [allC_one]; exact h1) rfl h3)
      have HG := Lib.hid (OutAt.fr ha ((HF.out.alloc _).alloc _) h2)
      clear h1 h2 h3 ha
      go_wp2_with fail
      go_roundw
      case rel => exact ⟨j + 1, o ++ [x.key], by go_num, by omega, HA.out, by have := HS.out; rw [drop_map HX.out] at this; rw [← this, List.append_assoc]; rfl, by simp; omega, HG.out⟩
      case measure => simp [intOf]; omega
    · have t1 : decide (j < l.length) = false := by simpa using h
      have hj2 : j = l.length := by omega
      subst hj2
      have HO2 : Hid (OutAt stC 9 1 w wr _ (l.map Od.key)) := Lib.hid (by have := HS.out; rw [List.drop_length, List.map_nil, List.append_nil] at this; rw [← this]; exact HO.out)
      go_wp2
      go_ret
      exact ⟨_, rfl, HO2.out, HF.out⟩
set_option maxHeartbeats 1000000 in
theorem tx_compared (lv : Value) (l : List Cm) (w : World) (hl : CmIn w lv l) (bl : l.length ≤ many) : Calls Tryz.prog 74 #[lv] w fun e w' => ∃ v, e = .returned v ∧ OutAt stC 9 1 w w' v (l.map Cm.key) ∧ Fr [] w w' := by
  unfold many at bl
  obtain ⟨s1, c1, rfl, la, ma⟩ := LIn.form hl
  unfold maxLen at ma
  have HL := Lib.hid hl
  clear hl
  go_enter Tryz.func74, Tryz.ntmps74
  go_wp2_with fail
  go_loopw [3, 8] (fun v i wr => ∃ (j : Nat) (o : List ByteArray), i = .int .i64 j ∧ j ≤ l.length ∧ OutAt stC 9 1 w wr v o ∧ o ++ (l.drop j).map Cm.key = l.map Cm.key ∧ o.length ≤ j ∧ Fr [] w wr) (fun _ i _ => l.length - (intOf i).toNat)
  case atStart => exact ⟨0, [], rfl, Nat.zero_le _, OutAt.nil _ _, rfl, Nat.zero_le _, Fr.refl _ _⟩
  case round =>
    obtain ⟨j, o, rfl, hj, ho, hs, hol, hf⟩ := hrel
    have HS := Lib.hid hs
    have HO := Lib.hid ho
    have HF := Lib.hid hf
    clear ho hf hs
    by_cases h : j < l.length
    · obtain ⟨x, hx⟩ : ∃ x, l[j]? = some x := ⟨_, List.getElem?_eq_getElem h⟩
      obtain ⟨g, off, d1, e1, _, l1, k1⟩ := CmIn.here (LIn.keep0 HL.out HF.out) (by omega)
      simp only [Value.slice.injEq] at e1
      obtain ⟨rfl, _, rfl⟩ := e1
      obtain ⟨p0, p1, p2, p3⟩ := k1 j x hx
      have HX := Lib.hid hx
      have t1 : decide (j < l.length) = true := by simpa using h
      clear hx k1
      go_wp2_with (at_builtin; refine wpList_append_any rfl (.tmp 12) (.tmp 15) 106 9 (.string ⟨#[]⟩) 1 16 rfl st_slice str_info rfl (by decide) _ o.length (allC stC o) rfl (HO.out.lies.keep0 (((Fr.refl [] _).alloc _).alloc _)) _ 1 (stC x.key) rfl (lies_row (wr.alloc (.cells #[.int .i64 x.kind, .string x.key, .string x.val, .int .i64 x.rev] 126)) 9 (stC x.key) rfl _ (by simp)) (stC_one x.key) (by unfold maxLen; omega) (by omega) ?app)
      case app =>
      intro v' w' h1 h2 h3
      have ha := HO.out.keep (((Fr.refl [] wr).alloc (.cells #[.int .i64 x.kind, .string x.key, .string x.val, .int .i64 x.rev] 126)).alloc (.cells (stC x.key).toArray 9))
      have HA := Lib.hid (OutAt.app ha (by have := HF.out.size; simp; omega) (xs := [x.key]) (by rw [allC_one]; exact h1) rfl h3)
      have HG := Lib.hid (OutAt.fr ha ((HF.out.alloc _).alloc _) h2)
      clear h1 h2 h3 ha
      go_wp2_with fail
      go_roundw
      case rel => exact ⟨j + 1, o ++ [x.key], by go_num, by omega, HA.out, by have := HS.out; rw [drop_map HX.out] at this; rw [← this, List.append_assoc]; rfl, by simp; omega, HG.out⟩
      case measure => simp [intOf]; omega
    · have t1 : decide (j < l.length) = false := by simpa using h
      have hj2 : j = l.length := by omega
      subst hj2
      have HO2 : Hid (OutAt stC 9 1 w wr _ (l.map Cm.key)) := Lib.hid (by have := HS.out; rw [List.drop_length, List.map_nil, List.append_nil] at this; rw [← this]; exact HO.out)
      go_wp2
      go_ret
      exact ⟨_, rfl, HO2.out, HF.out⟩
end Go.Proofs.YtmipllkgioakoaaGreat
namespace Go.Proofs.YtmipllkgioakoaaGreat
open Go.RowKit
set_option linter.unusedVariables false
set_option linter.unusedSimpArgs false

/-- an append of zeros to nothing, cut to nothing: room -/
theorem grown_room (w : World) (n cap : Nat) (e : TypeId) (hc : n ≤ cap) (hm : cap ≤ maxLen) (z : Value) (hz : z.cells.size = 1) (cs : Array Value) (hcs : cap ≤ cs.size) :
    Lies (w.drew.alloc (.cells cs e)) e 1 (.slice (some ⟨w.heap.size, 0, none⟩) 0 cap) 0 [] :=
  ⟨by simp, Or.inr ⟨w.heap.size, 0, cap, cs, rfl, new_block w.drew _, Nat.zero_le _, hm, by omega, fun j hj => by omega⟩⟩
theorem grow_run (n : Nat) (w : World) (h : 0 < n) (bn : n ≤ 1000000000) : ∃ cap cs, n ≤ cap ∧ (Builtin.append_ #[106, 3] 106 #[.slice none 0 0, .int .i64 n]).run Tryz.prog w = .ok (.slice (some ⟨w.heap.size, 0, none⟩) n cap) (w.drew.alloc (.cells cs 9)) ∧
    Lies (w.drew.alloc (.cells cs 9)) 9 1 (.slice (some ⟨w.heap.size, 0, none⟩) 0 cap) 0 [] := by
  obtain ⟨i, hi, hz, hs, hb⟩ := info_parts str_info
  have hcap := grownCap_ge w n 0 9
  have hcm := grownCap_le_maxLen w n 0 9 (by unfold maxLen; omega)
  have hrun := Go.Lib.run_append_nil_zeros (P := Tryz.prog) w 106 3 106 9 i _ .i64 .i64 st_slice Tryz.underlying3 hi hz n h (by omega) (by omega) (by rw [hb]; omega)
  refine ⟨_, _, hcap, hrun, grown_room w n _ _ hcap hcm (.string ⟨#[]⟩) rfl _ ?_⟩
  rw [Array.size_append, size_zeroCells, size_zeroCells]
  show _ ≤ n * 1 + _ * 1
  omega
set_option maxHeartbeats 1000000 in
set_option maxRecDepth 100000 in
theorem grow_st (n : Nat) (w : World) (bn : n ≤ many) : Calls Tryz.prog 86 #[.slice none 0 0, .int .i64 n] w fun e w' => ∃ v, e = .returned v ∧ OutAt stC 9 1 w w' v [] ∧ Fr [] w w' := by
  unfold many at bn
  go_enter Tryz.func86, Tryz.ntmps86
  by_cases h : 0 < n
  · have t1 : decide (0 < n) = true := by simpa using h
    obtain ⟨cap, cs, hcap, hrun, hok⟩ := grow_run n w h bn
    have HOK := Lib.hid hok
    have HR := Lib.hid hrun
    clear hrun hok
    go_wp2_with (at_builtin; refine Go.Lib.wpList_append_run w rfl (.tmp 20) (.tmp 21) 106 3 rfl _ _ rfl rfl _ _ HR.out ?_)
    go_ret
    exact ⟨_, rfl, ⟨HOK.out, fun k hk => by simp [Value.ownBlock] at hk; omega⟩, ((Fr.refl [] w).drew).alloc _⟩
  · obtain rfl : n = 0 := by omega
    go_wp2
    go_ret
    exact ⟨_, rfl, OutAt.nil _ _, Fr.refl _ _⟩
/-! a row of rows -/
def rowC (x : Value × List ByteArray) : List Value := [x.1]
theorem rowC_len (x : Value × List ByteArray) : (rowC x).length = 1 := rfl
def total : List (Value × List ByteArray) → Nat
  | [] => 0
  | x :: r => x.2.length + total r
theorem total_app : ∀ a b : List (Value × List ByteArray), total (a ++ b) = total a + total b
  | [], b => by simp [total]
  | x :: r, b => by simp only [List.cons_append, total, total_app r b]; omega
theorem total_take {l : List (Value × List ByteArray)} {j : Nat} {x : Value × List ByteArray} (hx : l[j]? = some x) : total (l.take (j + 1)) = total (l.take j) + x.2.length := by
  rw [List.take_add_one, hx, total_app]; rfl
theorem total_le (l : List (Value × List ByteArray)) (j : Nat) : total (l.take j) ≤ total l := by
  have := total_app (l.take j) (l.drop j)
  rw [List.take_append_drop] at this; omega
theorem flat_len2 : ∀ l : List (Value × List ByteArray), (l.flatMap (·.2)).length = total l
  | [] => rfl
  | x :: r => by simp only [List.flatMap_cons, List.length_append, total, flat_len2 r]
theorem flat_take {l : List (Value × List ByteArray)} {j : Nat} {x : Value × List ByteArray} (hx : l[j]? = some x) : (l.take (j + 1)).flatMap (·.2) = (l.take j).flatMap (·.2) ++ x.2 := by
  rw [List.take_add_one, hx, List.flatMap_append]; simp
structure Rows (w : World) (v : Value) (L : List (Value × List ByteArray)) : Prop where
  here : LIn rowC 1 w v L
  each : ∀ x ∈ L, StIn w x.1 x.2
theorem Rows.keep0 {w w' : World} {v : Value} {L : List (Value × List ByteArray)} (h : Rows w v L) (hf : Fr [] w w') : Rows w' v L := ⟨LIn.keep0 h.here hf, fun x hx => LIn.keep0 (h.each x hx) hf⟩
theorem Rows.spot {w : World} {v : Value} {L : List (Value × List ByteArray)} (h : Rows w v L) (hn : 0 < L.length) : ∃ (g off c : Nat), v = .slice (some ⟨g, off, Option.none⟩) L.length c ∧ ∀ i x, L[i]? = some x → w.cell? ⟨g, off + i, Option.none⟩ = some x.1 := by
  obtain ⟨g, off, c, hv, h1, h2, h3⟩ := LIn.here h.here hn
  refine ⟨g, off, c, hv, fun i x hx => ?_⟩
  have q := h3 i x hx 0 (by decide)
  simpa [rowC] using q
set_option maxHeartbeats 1000000 in
theorem concat_st (v : Value) (L : List (Value × List ByteArray)) (w : World) (h : Rows w v L) (bL : L.length ≤ many) (bt : total L ≤ many) : Calls Tryz.prog 81 #[v] w fun e w' => ∃ v', e = .returned v' ∧ OutAt stC 9 1 w w' v' (L.flatMap (·.2)) ∧ Fr [] w w' := by
  unfold many at bL bt
  obtain ⟨s1, c1, rfl, la, ma⟩ := LIn.form h.here
  unfold maxLen at ma
  have HL := Lib.hid h
  clear h
  go_enter Tryz.func81, Tryz.ntmps81
  go_wp2_with fail
  go_loopw [3, 11] (fun s i wr => ∃ (j : Nat) (m : Nat), s = .int .i64 m ∧ i = .int .i64 j ∧ j ≤ L.length ∧ m = total (L.take j) ∧ w = wr) (fun _ i _ => L.length - (intOf i).toNat)
  case atStart => exact ⟨0, 0, rfl, rfl, Nat.zero_le _, rfl, rfl⟩
  case round =>
    obtain ⟨j, m, rfl, rfl, hj, hm, rfl⟩ := hrel
    have HM := Lib.hid hm
    have hml : m ≤ 1000000000 := by rw [hm]; exact Nat.le_trans (total_le L j) bt
    clear hm
    by_cases hlt : j < L.length
    · obtain ⟨x, hx⟩ : ∃ x, L[j]? = some x := ⟨_, List.getElem?_eq_getElem hlt⟩
      obtain ⟨g, off, d1, e1, k1⟩ := HL.out.spot (by omega)
      simp only [Value.slice.injEq] at e1
      obtain ⟨rfl, _, rfl⟩ := e1
      have p0 := k1 j x hx
      have HX := Lib.hid hx
      have hxl : x.2.length ≤ 1000000000 := by have := total_take hx; have := total_le L (j + 1); omega
      obtain ⟨s2, c2, hv2, la2, ma2⟩ := LIn.form (HL.out.each x (List.mem_of_getElem? hx))
      unfold maxLen at ma2
      rw [hv2] at p0
      have t1 : decide (j < L.length) = true := by simpa using hlt
      clear hx k1 hv2
      go_wp2_with fail
      go_roundw
      case rel => exact ⟨j + 1, m + x.2.length, by go_num, by go_num, by omega, by rw [total_take HX.out, ← HM.out], trivial⟩
      case measure => simp [intOf]; omega
    · have t1 : decide (j < L.length) = false := by simpa using hlt
      have hj2 : j = L.length := by omega
      subst hj2
      clear HM
      go_wp2_with (go_at_call 86; refine (grow_st m _ hml).mono ?_; rintro e w1 ⟨v1, rfl, ho1, hf1⟩; refine go_stop ?_)
      unfold Stop
      obtain ⟨s3, c3, rfl⟩ : ∃ s c, v1 = .slice s 0 c := by obtain ⟨s3, c3, h, _⟩ := ho1.lies.form; exact ⟨s3, c3, h⟩
      have HO1 := Lib.hid ho1
      have HF1 := Lib.hid hf1
      clear ho1 hf1 hml hlt t1
      go_wp2_with fail
      go_loopw [6, 27] (fun v i wr => ∃ (j : Nat) (o : List ByteArray), i = .int .i64 j ∧ j ≤ L.length ∧ OutAt stC 9 1 w wr v o ∧ o = (L.take j).flatMap (·.2) ∧ Fr [] w wr) (fun _ i _ => L.length - (intOf i).toNat)
      case atStart => exact ⟨0, [], rfl, Nat.zero_le _, HO1.out, rfl, HF1.out⟩
      case round =>
        clear HO1 HF1
        obtain ⟨j, o, rfl, hj, ho, hs, hf⟩ := hrel
        have hol : o.length ≤ 1000000000 := by rw [hs, flat_len2]; exact Nat.le_trans (total_le L j) bt
        have HO := Lib.hid ho
        have HS := Lib.hid hs
        have HF := Lib.hid hf
        clear ho hs hf
        by_cases hlt : j < L.length
        · obtain ⟨x, hx⟩ : ∃ x, L[j]? = some x := ⟨_, List.getElem?_eq_getElem hlt⟩
          obtain ⟨g, off, d1, e1, k1⟩ := (HL.out.keep0 HF.out).spot (by omega)
          simp only [Value.slice.injEq] at e1
          obtain ⟨rfl, _, rfl⟩ := e1
          have p0 := k1 j x hx
          have HX := Lib.hid hx
          have hsum : o.length + x.2.length ≤ 1000000000 := by
            have h1 := total_take hx
            have h2 := total_le L (j + 1)
            rw [HS.out, flat_len2]; omega
          have HST := Lib.hid (LIn.keep0 (HL.out.each x (List.mem_of_getElem? hx)) HF.out)
          have t1 : decide (j < L.length) = true := by simpa using hlt
          clear hx k1
          go_wp2_with (at_builtin; refine wpList_append_src rfl (.tmp 31) (.tmp 32) 106 9 (.string ⟨#[]⟩) 1 16 rfl st_slice str_info rfl (by decide) _ o.length (allC stC o) rfl HO.out.lies x.1 x.2.length (allC stC x.2) rfl (LIn.src HST.out stC_len (by decide)) (allC_ones stC_one x.2) (by unfold maxLen; omega) (by omega) ?app)
          case app =>
          intro v' w' h1 h2 h3
          have HA := Lib.hid (OutAt.app HO.out HF.out.size (xs := x.2) h1 rfl h3)
          have HG := Lib.hid (OutAt.fr HO.out HF.out h2)
          clear h1 h2 h3
          go_wp2_with fail
          go_roundw
          case rel => exact ⟨j + 1, o ++ x.2, by go_num, by omega, HA.out, by rw [flat_take HX.out, ← HS.out], HG.out⟩
          case measure => simp [intOf]; omega
        · have t1 : decide (j < L.length) = false := by simpa using hlt
          have hj2 : j = L.length := by omega
          subst hj2
          have HO2 : Hid (OutAt stC 9 1 w wr _ (L.flatMap (·.2))) := Lib.hid (by have := HS.out; rw [List.take_length] at this; rw [← this]; exact HO.out)
          go_wp2
          go_ret
          exact ⟨_, rfl, HO2.out, HF.out⟩
end Go.Proofs.YtmipllkgioakoaaGreat
namespace Go.Proofs.YtmipllkgioakoaaGreat
open Go.RowKit Go.Sort
set_option linter.unusedVariables false
set_option linter.unusedSimpArgs false

theorem sort_none (p : Option Addr) (c : Nat) (w : World) : Calls Tryz.prog 78 #[.slice p 0 c] w fun e w' => e = .returned (.tuple #[]) ∧ w' = w :=
  Tryz.slices_Sort_string_none p c w
/-- the library's sort, in these words -/
theorem sort_st (g off c : Nat) (l : List ByteArray) (e : TypeId) (w : World) (h : LAt stC e 1 w (.slice (some ⟨g, off, none⟩) l.length c) l) (h0 : 0 < l.length) (bl : l.length ≤ many) : Calls Tryz.prog 78 #[.slice (some ⟨g, off, none⟩) l.length c] w fun e w' =>
    e = .returned (.tuple #[]) ∧ Holds encStr w' g off (sortL l).toArray ∧ Fr [g] w w' := by
  unfold many at bl
  have hh := holds_st h
  have hlt : g < w.heap.size := h.lt g rfl
  have hl : (l.map (·.data.toList)).length = l.length := List.length_map _
  have hs := Tryz.slices_Sort_string g off c (l.map (·.data.toList)) w hh hlt (by rw [hl]; omega)
  change Calls Tryz.prog 78 _ _ _ at hs
  rw [hl] at hs
  refine hs.mono ?_
  rintro e w' ⟨rfl, n, os, rfl⟩
  refine ⟨rfl, ?_, (fr_putRow w g off n _).trans (fr_growO _ os) (by simp)⟩
  refine Holds.keep ?_ (fr_growO _ os)
  exact holds_putRow encStr (Sort.ahead w n) g off _ _ (holds_ahead encStr w n g off _ hh) (by simp)
theorem comp_st (g off c : Nat) (l : List ByteArray) (w : World) (h : Holds encStr w g off (sortL l).toArray) (hc : l.length ≤ c) (hm : c ≤ maxLen) (h0 : 0 < l.length) (bl : l.length ≤ many) : Calls Tryz.prog 82 #[.slice (some ⟨g, off, none⟩) l.length c] w fun e w' =>
    ∃ v ks, e = .returned v ∧ StIn w' v ks ∧ Gath l ks ∧ Fr [g] w w' := by
  unfold many at bl
  have hl := sortL_len l
  have hs : Calls Tryz.prog 82 #[.slice (some ⟨g, off, none⟩) (sortL l).length c] w _ := Tryz.slices_Compact_string g off c (sortL l) w h (by rw [hl]; omega) (by rw [hl]; exact hc)
  rw [hl] at hs
  refine hs.mono ?_
  rintro e w' ⟨rfl, q, rfl⟩
  have hle : (Lib.compact (sortL l)).length ≤ l.length := by
    have := (gath_sorted l).le
    rwa [List.length_map] at this
  have hsz : (Lib.compact (sortL l) ++ List.replicate (l.length - (Lib.compact (sortL l)).length) ([] : List UInt8)).toArray.size = (sortL l).toArray.size := by simp [hl]; omega
  have hh := holds_putRow encStr (Sort.ahead w q) g off _ _ (holds_ahead encStr w q g off _ h) hsz
  refine ⟨_, (Lib.compact (sortL l)).map baL, rfl, ?_, gath_sorted l, fr_putRow w g off q _⟩
  have := StIn.of_holds (n := (Lib.compact (sortL l)).length) (c := c) hh (by rw [hsz]; simp [hl]; exact hle) (by omega) hm
  simpa using this
set_option maxHeartbeats 1000000 in
theorem tx_gather (v : Value) (L : List (Value × List ByteArray)) (w : World) (h : Rows w v L) (bL : L.length ≤ many) (bt : total L ≤ many) : Calls Tryz.prog 73 #[v] w fun e w' => ∃ v' ks, e = .returned v' ∧ StIn w' v' ks ∧ Gath (L.flatMap (·.2)) ks ∧ Fr [] w w' := by
  have hc := concat_st v L w h bL bt
  have hb : (L.flatMap (·.2)).length ≤ many := by rw [flat_len2]; exact bt
  have HB := Lib.hid hb
  generalize L.flatMap (·.2) = l at hc HB ⊢
  have HC := Lib.hid hc
  clear hc h bL bt hb
  go_enter Tryz.func73, Tryz.ntmps73
  go_wp2_with (go_at_call 81; refine HC.out.mono ?_; rintro e w1 ⟨v1, rfl, ho, hf⟩; refine go_stop ?_)
  unfold Stop
  obtain ⟨s1, c1, rfl, hc1, hm1⟩ := ho.lies.form
  have HO := Lib.hid ho
  have HF := Lib.hid hf
  clear ho hf
  by_cases h0 : l.length = 0
  · obtain rfl : l = [] := List.eq_nil_of_length_eq_zero h0
    go_wp2_with (go_at_call 78; refine (sort_none s1 c1 _).mono ?_; rintro e w2 ⟨rfl, rfl⟩; refine go_stop ?_)
    unfold Stop
    go_wp2_with (go_at_call 82; refine (Tryz.slices_Compact_string_empty s1 c1 _).mono ?_; rintro e w2 ⟨rfl, rfl⟩; refine go_stop ?_)
    unfold Stop
    go_wp2
    go_ret
    refine ⟨_, [], rfl, ?_, Gath.nil, HF.out⟩
    exact LAt.read HO.out.lies stC_len
  · obtain ⟨g, off, c2, hv, hg, _⟩ := LAt.here HO.out.lies stC_len (by omega)
    simp only [Value.slice.injEq] at hv
    obtain ⟨rfl, _, rfl⟩ := hv
    have hnew : w.heap.size ≤ g := HO.out.new g rfl
    have HL : Hid (LAt stC 9 1 w1 (.slice (some ⟨g, off, none⟩) l.length c1) l) := Lib.hid HO.out.lies
    clear HO
    go_wp2_with (go_at_call 78; refine (sort_st g off c1 l _ _ HL.out (by omega) HB.out).mono ?_; rintro e w2 ⟨rfl, hh, hf2⟩; refine go_stop ?_)
    unfold Stop
    have HH := Lib.hid hh
    have HF2 := Lib.hid (HF.out.trans hf2 (by simp; omega))
    clear hh hf2
    go_wp2_with (go_at_call 82; refine (comp_st g off c1 l _ HH.out hc1 hm1 (by omega) HB.out).mono ?_; rintro e w3 ⟨v3, ks, rfl, h3, h4, h5⟩; refine go_stop ?_)
    unfold Stop
    have H3 := Lib.hid h3
    have H4 := Lib.hid h4
    have HF3 := Lib.hid (HF2.out.trans h5 (by simp; omega))
    clear h3 h4 h5
    go_wp2
    go_ret
    exact ⟨_, ks, rfl, H3.out, H4.out, HF3.out⟩
end Go.Proofs.YtmipllkgioakoaaGreat
