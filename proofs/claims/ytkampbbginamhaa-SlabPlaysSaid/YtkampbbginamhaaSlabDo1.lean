/- impostlaw02.do, a deed that takes a record -/
import Derived.Test.YtkampbbginamhaaSlabDo
namespace Go.Proofs.Ytkampbbginamhaa
open Go.RowKit
set_option linter.unusedVariables false
set_option linter.unusedSimpArgs false

/-- how the calls of a deed make its post -/
theorem doPost2 {w w2 w' : World} {p pm : Nat} {mv rv fv fv' : Value} {n' N : Nat} {s' : SS} {mx gx tx fx lv : Value} {k' : Int} {K : Nat} {L' : List Int} {S : List Nat}
    (hlt : ∀ k ∈ SlabAt.foot p pm mv rv fv, k < w.heap.size)
    (hs : SlabAt w2 p pm mv rv fv' n' s') (hn : n' ≤ N) (hfr : Fr (SlabAt.foot p pm mv rv fv) w w2) (hfv : ∀ k, fv'.ownBlock = some k → fv.ownBlock = some k ∨ w.heap.size ≤ k)
    (hr : RefF w2 mx gx tx fx k' K s') (hl : Lies w2 38 1 lv L'.length (L'.map (Value.int .u64)))
    (hw : Fr S w2 w') (hS : ∀ k ∈ S, w.heap.size ≤ k ∧ k ∉ blks (refAgg mx gx tx fx k' s') ∧ lv.ownBlock ≠ some k ∧ fv'.ownBlock ≠ some k)
    (hap : ∀ b, (b ∈ blks (refAgg mx gx tx fx k' s') ∨ lv.ownBlock = some b) → b ∉ SlabAt.foot p pm mv rv fv') :
    DoOut w (SlabAt.foot p pm mv rv fv) N K s' L' (.returned (.tuple #[.agg #[.pointer (some ⟨p, 0, none⟩), .pointer (some ⟨pm, 0, none⟩), mx, .int .i64 k', .int .i64 s'.first, .int .i64 s'.words, gx, tx, fx, lv], .bool true])) w' := by
  have hnew : ∀ k ∈ SlabAt.foot p pm mv rv fv', k ∈ SlabAt.foot p pm mv rv fv ∨ w.heap.size ≤ k := by
    intro k hk
    simp only [SlabAt.foot, List.mem_cons, List.mem_append, Option.mem_toList] at hk ⊢
    rcases hk with h | h | h | h | h
    · exact Or.inl (Or.inl h)
    · exact Or.inl (Or.inr (Or.inl h))
    · exact Or.inl (Or.inr (Or.inr (Or.inl h)))
    · exact Or.inl (Or.inr (Or.inr (Or.inr (Or.inl h))))
    · exact (hfv k h).imp (fun h => Or.inr (Or.inr (Or.inr (Or.inr h)))) id
  have hfoot : ∀ k ∈ SlabAt.foot p pm mv rv fv', k ∉ S := by
    intro k hk hm
    have h1 := hS k hm
    simp only [SlabAt.foot, List.mem_cons, List.mem_append, Option.mem_toList] at hk
    have h2 : k ∈ SlabAt.foot p pm mv rv fv → False := fun h => by have := hlt k h; omega
    simp only [SlabAt.foot, List.mem_cons, List.mem_append, Option.mem_toList] at h2
    rcases hk with h | h | h | h | h
    · exact h2 (Or.inl h)
    · exact h2 (Or.inr (Or.inl h))
    · exact h2 (Or.inr (Or.inr (Or.inl h)))
    · exact h2 (Or.inr (Or.inr (Or.inr (Or.inl h))))
    · exact h1.2.2.2 h
  refine ⟨_, _, rfl, ⟨p, pm, mv, rv, fv', n', mx, gx, tx, fx, k', lv, rfl, rfl, hs.keep hw hfoot, hn, hr.keep hw (fun j hj hm => (hS j hm).2.1 hj), hl.keep hw (fun j hj hm => (hS j hm).2.2.1 hj), hap⟩, hfr.trans hw (fun x hx => Or.inr (hS x hx).1), hnew⟩

set_option maxRecDepth 100000 in
set_option maxHeartbeats 2000000 in
theorem do_1 (w : World) (i n v raw : Int) {V : Value} {FT : List Nat} {N K : Nat} {s : SS} {L : List Int} {G : Int} (h : SBoth w V FT N K s L) (ho : s.Ok G) (hG : G ≤ 100000) (hN : N ≤ 10000000) (hK : K ≤ 10000000) (hrow : s.row.length ≤ 1000000) (hL : L.length ≤ 100000) (n0 : 0 ≤ n) (n1 : n ≤ 255) :
    Calls Try.prog 11 #[V, .agg #[.int .i64 1, .int .i64 i, .int .u8 n, .int .u64 v, .int .u64 raw]] w (DoOut w FT (N + s.words) (K + s.words) (s.deedS L 1 i n v raw) (s.deedL L 1)) := by
  rw [show s.deedS L 1 i n v raw = s.alloc from by rw [SS.deedS, if_pos rfl]]
  obtain ⟨p, pm, mv, rv, fv, nn, mx, gx, tx, fx, k, lv, rfl, rfl, hs, hnn, hr, hl, hap⟩ := h
  have HT := Lib.hid (fun X (hX : Fr [] w X) => told_any X n (hl.keep hX (by simp)) n0 n1 (by omega))
  have HS := Lib.hid hs
  have HRF := Lib.hid hr
  have HL := Lib.hid hl
  have HAP := Lib.hid hap
  have HO := Lib.hid ho
  obtain ⟨⟨ma, mc, rfl⟩, ⟨ga, gc, rfl⟩, ⟨ta, tc, rfl⟩, ⟨fa, fc, rfl⟩⟩ := hr.forms
  obtain ⟨la, lc, rfl, _⟩ := hl.form
  have hflt := hs.lt
  have HFLT := Lib.hid hflt
  clear hs hr hl hap ho hflt
  go_enter Try.func11, Try.ntmps11
  go_wp2_with (first | (go_at_call 20; refine (HT.out _ (by exact (((Fr.refl [] w).alloc _).alloc _).alloc _)).mono ?_; rintro e w1 ⟨rfl, rfl⟩) | (go_at_call 22; refine (slab_alloc _ p pm (HS.out.keep (by exact (((Fr.refl [] w).alloc _).alloc _).alloc _) (by simp)) HO.out hG hrow (by omega)).mono ?_; rintro e w1 ⟨rfl, hout⟩; refine go_stop ?_))
  obtain ⟨fv', n', hs1, hn1, hf1, hfv1⟩ := hout
  obtain ⟨hA, hB, hC, hfw⟩ := three_boxes HFLT.out hf1
  obtain ⟨a0, a1, a2, a3, a4, a5, a6, a7, a8, a9, fa10⟩ := cells10 hA
  obtain ⟨b0, b1, b2, b3, b4, fb5⟩ := cells5 hB
  obtain ⟨c0, c1, c2, c3, c4, c5, c6, c7, c8, c9, fc10⟩ := cells10 hC
  have hsz1 : w.heap.size + 1 + 1 < w1.heap.size := lt_of_block hC
  have hr1 := HRF.out.keep hfw (fun j hj => HAP.out j (Or.inl hj))
  have hfv1' : ∀ j, fv'.ownBlock = some j → fv.ownBlock = some j ∨ w.heap.size + 1 + 1 < j := by
    intro j hj; exact (hfv1 j hj).imp id (fun h => by first | omega | (simp at h; omega))
  have HRA := Lib.hid (ralloc_any w1 ⟨_, _, _, _, k, rfl, hr1⟩ HO.out hG (by omega) hrow)
  have HL1 := Lib.hid (HL.out.keep hfw (fun j hj => HAP.out j (Or.inr hj)))
  have HS1 := Lib.hid hs1
  have HF1 := Lib.hid hfw
  have HFV := Lib.hid hfv1'
  have HA1 := Lib.hid hA
  have HB1 := Lib.hid hB
  have HC1 := Lib.hid hC
  clear hs1 hf1 hfv1 hfv1' hA hB hC hfw hr1
  unfold refAgg at HRA
  unfold Stop
  have hz1 : (s.allocV == s.allocV) = true := by simp
  have hz2 : (s.allocE == s.allocE) = true := by simp
  go_wp2_with (go_at_call 28; refine HRA.out.mono ?_; rintro e w2 ⟨X', rfl, hnext⟩; refine go_stop ?_)
  obtain ⟨⟨mx', gx', tx', fx', k', rfl, hr2⟩, hf2, hb2⟩ := hnext
  have hA := hf2.keep HA1.out (by simp)
  have hB := hf2.keep HB1.out (by simp)
  have hC := hf2.keep HC1.out (by simp)
  clear a0 a1 a2 a3 a4 a5 a6 a7 a8 a9 fa10 b0 b1 b2 b3 b4 fb5 c0 c1 c2 c3 c4 c5 c6 c7 c8 c9 fc10
  obtain ⟨a0, a1, a2, a3, a4, a5, a6, a7, a8, a9, fa10⟩ := cells10 hA
  obtain ⟨c0, c1, c2, c3, c4, c5, c6, c7, c8, c9, fc10⟩ := cells10 hC
  obtain ⟨⟨ma', mc', rfl⟩, ⟨ga', gc', rfl⟩, ⟨ta', tc', rfl⟩, ⟨fa', fc', rfl⟩⟩ := hr2.forms
  have hsz2 : w.heap.size + 1 + 1 < w2.heap.size := lt_of_block hC
  have hsz2a : w.heap.size < w2.heap.size := by omega
  have hs2 := HS1.out.keep hf2 (by simp)
  have hl2 := HL1.out.keep hf2 (by simp)
  have hF2 : Fr (SlabAt.foot p pm mv rv fv) w w2 := HF1.out.trans hf2 (by simp)
  have HR2 := Lib.hid hr2
  have HS2 := Lib.hid hs2
  have HL2 := Lib.hid hl2
  have HF2 := Lib.hid hF2
  have HFR2 := Lib.hid hf2
  have HA2 := Lib.hid hA
  have HC2 := Lib.hid hC
  have hbl : ∀ j ∈ blks (refAgg (.slice ma' s.alloc.c.length mc') (.slice ga' s.alloc.recs.length gc') (.slice ta' s.alloc.recs.length tc') (.slice fa' s.alloc.row.length fc') k' s.alloc), j ≠ w.heap.size ∧ j ≠ w.heap.size + 1 + 1 ∧ j ∉ SlabAt.foot p pm mv rv fv' := by
    intro j hj
    have hold : j ∈ blks (refAgg (.slice ma s.c.length mc) (.slice ga s.recs.length gc) (.slice ta s.recs.length tc) (.slice fa s.row.length fc) k s) ∨ w1.heap.size ≤ j := hb2 j hj
    have h1 := HFLT.out
    rcases hold with h | h
    · have hlt := HRF.out.lt j h
      refine ⟨by omega, by omega, ?_⟩
      intro hm
      have hn := HAP.out j (Or.inl h)
      simp only [SlabAt.foot, List.mem_cons, List.mem_append, Option.mem_toList, not_or] at hm hn
      rcases hm with e | e | e | e | e
      · exact hn.1 e
      · exact hn.2.1 e
      · exact hn.2.2.1 e
      · exact hn.2.2.2.1 e
      · rcases HFV.out j e with e | e
        · exact hn.2.2.2.2 e
        · omega
    · refine ⟨by omega, by omega, fun hm => ?_⟩
      have := HS1.out.lt j hm
      omega
  have HBL := Lib.hid hbl
  have hlb : ∀ j, (Value.slice la L.length lc).ownBlock = some j → j < w.heap.size ∧ j ∉ SlabAt.foot p pm mv rv fv' := by
    intro j h
    have hlt := HL.out.lt j h
    refine ⟨hlt, fun hm => ?_⟩
    have hn := HAP.out j (Or.inr h)
    simp only [SlabAt.foot, List.mem_cons, List.mem_append, Option.mem_toList, not_or] at hm hn
    rcases hm with e | e | e | e | e
    · exact hn.1 e
    · exact hn.2.1 e
    · exact hn.2.2.1 e
    · exact hn.2.2.2.1 e
    · rcases HFV.out j e with e | e
      · exact hn.2.2.2.2 e
      · omega
  have HLB := Lib.hid hlb
  have hfvS : ∀ j, fv'.ownBlock = some j → j ≠ w.heap.size ∧ j ≠ w.heap.size + 1 + 1 := by
    intro j hj
    rcases HFV.out j hj with e | e
    · have := HFLT.out j (by simp [SlabAt.foot, e]); omega
    · omega
  have HFVS := Lib.hid hfvS
  clear hA hB hC hf2 hb2 hr2 hs2 hl2 hF2 hbl hlb hfvS
  have hcs : s.allocE = 0 ∨ s.allocE = 7 := by
    unfold SS.allocE
    split
    · exact Or.inr rfl
    · exact Or.inl rfl
  unfold Stop refAgg
  rcases hcs with hc | hc
  · have HDL : Hid (s.deedL L 1 = L ++ [s.allocV]) := Lib.hid (by rw [SS.deedL, if_pos ⟨rfl, hc⟩])
    rw [hc]
    clear hz2 hc
    go_wp2_with (at_builtin; refine wpList_append_any rfl (.tmp 59) (.tmp 61) 26 38 (.int .u64 0) 1 8 rfl u64_slice u64_info rfl (by decide) _ 0 [] rfl (lies_empty _ _ _ _ (by simp)) _ L.length (L.map (Value.int .u64)) rfl ?src (one_ints .u64 (fun (x : Int) => x) _) (by unfold maxLen; omega) (by omega) ?app)
    case src =>
      refine HL2.out.keep (S := [w.heap.size]) ?_ ?_
      rotate_left
      · intro j hj; have := (HLB.out j hj).1; simp; omega
      repeat (first | (with_reducible exact Fr.refl _ _) | (with_reducible refine Fr.alloc ?_ _) | (with_reducible refine Fr.drew ?_) | (with_reducible refine Fr.setCell ?_ (Or.inl (by simp)) _))
    case app =>
    intro lv1 w3 hown hfr hat
    have hlv1 : ∀ j, lv1.ownBlock = some j → w2.heap.size < j := by
      intro j hj
      rcases hat j hj with h | h
      · first | omega | (simp [Value.ownBlock] at h; omega)
      · first | omega | (simp at h; omega)
    have hF3 : Fr [w.heap.size] w2 w3 := by
      refine Fr.trans ?_ hfr ?_
      · repeat (first | (with_reducible exact Fr.refl _ _) | (with_reducible refine Fr.alloc ?_ _) | (with_reducible refine Fr.drew ?_) | (with_reducible refine Fr.setCell ?_ (Or.inl (by simp)) _))
      · intro x hx; simp [Value.ownBlock] at hx; exact Or.inr (by omega)
    have hA := hfr.keep (blk_alloc (blk_alloc (set_block (set_block (set_block (set_block (set_block (set_block (set_block HA2.out 2 (.slice ma' s.alloc.c.length mc')) 3 (.int .i64 k')) 4 (.int .i64 s.alloc.first)) 5 (.int .i64 s.alloc.words)) 6 (.slice ga' s.alloc.recs.length gc')) 7 (.slice ta' s.alloc.recs.length tc')) 8 (.slice fa' s.alloc.row.length fc')) _) _) (not_own (by omega))
    simp at hA
    have hC := hF3.keep HC2.out (by simp; omega)
    have hs3 := HS2.out.keep hF3 (fun j hj hm => by
      simp at hm; subst hm
      simp only [SlabAt.foot, List.mem_cons, List.mem_append, Option.mem_toList] at hj
      have h1 := HFLT.out
      rcases hj with e | e | e | e | e
      · have := h1 w.heap.size (by simp [SlabAt.foot, e]); omega
      · have := h1 w.heap.size (by simp [SlabAt.foot, e]); omega
      · have := h1 w.heap.size (by simp [SlabAt.foot, e]); omega
      · have := h1 w.heap.size (by simp [SlabAt.foot, e]); omega
      · exact (HFVS.out _ e).1 rfl)
    have hr3 := HR2.out.keep hF3 (fun j hj hm => by simp at hm; exact (HBL.out j hj).1 hm)
    have hF3' : Fr (SlabAt.foot p pm mv rv fv) w w3 := HF2.out.trans hF3 (by intro x hx; simp at hx; exact Or.inr (by omega))
    obtain ⟨a0', a1', a2', a3', a4', a5', a6', a7', a8', a9', fa10'⟩ := cells10 hA
    have hsz3 : w2.heap.size < w3.heap.size := by have := hfr.size; simp at this; omega
    have hsz3a : w.heap.size < w3.heap.size := by omega
    have HOWN := Lib.hid hown
    have HLV1 := Lib.hid hlv1
    have HA3 := Lib.hid hA
    have HC3 := Lib.hid hC
    have HS3 := Lib.hid hs3
    have HR3 := Lib.hid hr3
    have HF3 := Lib.hid hF3'
    clear hown hfr hat hlv1 hF3 hA hC hs3 hr3 hF3' a0 a1 a2 a3 a4 a5 a6 a7 a8 a9 fa10 c0 c1 c2 c3 c4 c5 c6 c7 c8 c9 fc10
    go_wp2_with (at_builtin; refine wpList_append_any rfl (.tmp 62) (.tmp 64) 26 38 (.int .u64 0) 1 8 rfl u64_slice u64_info rfl (by decide) lv1 L.length (L.map (Value.int .u64)) rfl ?own _ 1 [.int .u64 s.allocV] rfl ?src2 (one_int _ _) (by unfold maxLen; omega) (by omega) ?app2)
    case own => exact HOWN.out.alloc _
    case src2 => exact lies_one _ _ _ _ (by simp)
    case app2 =>
    intro lv2 w4 hown hfr hat
    have hown : Lies w4 38 1 lv2 (L ++ [s.allocV]).length ((L ++ [s.allocV]).map (Value.int .u64)) := by simpa using hown
    have hlv2 : ∀ j, lv2.ownBlock = some j → w2.heap.size < j := by
      intro j hj
      rcases hat j hj with h | h
      · exact HLV1.out j h
      · first | omega | (simp at h; omega)
    have hn4 : ∀ j, j ≤ w2.heap.size → j ∉ lv1.ownBlock.toList := by intro j hj hm; simp at hm; have := HLV1.out j hm; omega
    have hF4 : Fr lv1.ownBlock.toList w3 w4 := ((Fr.refl _ w3).alloc _).trans hfr (fun x hx => Or.inl hx)
    have hA := hF4.keep HA3.out (hn4 _ (by omega))
    have hC := hF4.keep HC3.out (hn4 _ (by omega))
    have hs4 := HS3.out.keep hF4 (fun j hj => hn4 j (by have := HS2.out.lt j hj; omega))
    have hr4 := HR3.out.keep hF4 (fun j hj => hn4 j (by have := HR2.out.lt j hj; omega))
    have hF4' : Fr (SlabAt.foot p pm mv rv fv) w w4 := HF3.out.trans hF4 (by intro x hx; simp at hx; have := HLV1.out x hx; exact Or.inr (by omega))
    obtain ⟨c0, c1, c2, c3, c4, c5, c6, c7, c8, c9, fc10⟩ := cells10 hC
    clear a0' a1' a2' a3' a4' a5' a6' a7' a8' a9' fa10'
    obtain ⟨a0', a1', a2', a3', a4', a5', a6', a7', a8', a9', fa10'⟩ := cells10 hA
    have HOWN2 := Lib.hid hown
    have HLV2 := Lib.hid hlv2
    have HS4 := Lib.hid hs4
    have HR4 := Lib.hid hr4
    have HF4 := Lib.hid hF4'
    obtain ⟨la2, lc2, rfl, _⟩ := hown.form
    clear hown hfr hat hlv2 hn4 hF4 hA hC hs4 hr4 hF4'
    go_wp2
    refine bodyPost_ret (v := .tuple #[.agg #[.pointer (some ⟨p, 0, none⟩), .pointer (some ⟨pm, 0, none⟩), .slice ma' s.alloc.c.length mc', .int .i64 k', .int .i64 s.alloc.first, .int .i64 s.alloc.words, .slice ga' s.alloc.recs.length gc', .slice ta' s.alloc.recs.length tc', .slice fa' s.alloc.row.length fc', .slice la2 (L ++ [s.allocV]).length lc2], .bool true]) (by simp [results, Try.results11, go_sem, *]) rfl ?_
    rw [HDL.out]
    refine doPost2 (S := [w.heap.size, w.heap.size + 1 + 1]) HFLT.out HS4.out (by omega) HF4.out (fun j hj => (HFV.out j hj).imp id (fun h => by omega)) HR4.out HOWN2.out ?frt1 ?_ ?_
    case frt1 =>
      repeat (first | (with_reducible exact Fr.refl _ _) | (with_reducible refine Fr.alloc ?_ _) | (with_reducible refine Fr.drew ?_) | (with_reducible refine Fr.setCell ?_ (Or.inl (by simp)) _))
    · intro j hj
      simp at hj
      refine ⟨by omega, fun hm => ?_, fun hm => ?_, fun hm => ?_⟩
      · have := HBL.out j hm; omega
      · have := HLV2.out j hm; omega
      · have := HFVS.out j hm; omega
    · rintro b (hb | hb)
      · exact (HBL.out b hb).2.2
      · intro hm
        have := HLV2.out b hb
        have := HS2.out.lt b hm
        omega
  · have HDL : Hid (s.deedL L 1 = L) := Lib.hid (by rw [SS.deedL, if_neg (by rw [hc]; simp)])
    rw [hc]
    clear hz2 hc
    go_wp2
    refine bodyPost_ret (v := .tuple #[.agg #[.pointer (some ⟨p, 0, none⟩), .pointer (some ⟨pm, 0, none⟩), .slice ma' s.alloc.c.length mc', .int .i64 k', .int .i64 s.alloc.first, .int .i64 s.alloc.words, .slice ga' s.alloc.recs.length gc', .slice ta' s.alloc.recs.length tc', .slice fa' s.alloc.row.length fc', .slice la L.length lc], .bool true]) (by simp [results, Try.results11, go_sem, *]) rfl ?_
    rw [HDL.out]
    refine doPost2 (S := [w.heap.size, w.heap.size + 1 + 1]) HFLT.out HS2.out (by omega) HF2.out (fun j hj => (HFV.out j hj).imp id (fun h => by omega)) HR2.out HL2.out ?frt ?_ ?_
    case frt =>
      repeat (first | (with_reducible exact Fr.refl _ _) | (with_reducible refine Fr.alloc ?_ _) | (with_reducible refine Fr.drew ?_) | (with_reducible refine Fr.setCell ?_ (Or.inl (by simp)) _))
    · intro j hj
      simp at hj
      refine ⟨by omega, fun hm => ?_, fun hm => ?_, fun hm => ?_⟩
      · have := HBL.out j hm; omega
      · have := (HLB.out j hm).1; omega
      · have := HFVS.out j hm; omega
    · rintro b (hb | hb)
      · exact (HBL.out b hb).2.2
      · exact (HLB.out b hb).2
end Go.Proofs.Ytkampbbginamhaa
