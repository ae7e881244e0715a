/- CONTRACT OF THE DOCUMENT's ANSWER FOR Alloc -/
import Derived.Test.YtkampbbginamhaaSlabRefOps
namespace Go.Proofs.Ytkampbbginamhaa
open Go.RowKit
set_option linter.unusedVariables false
set_option linter.unusedSimpArgs false

def AllocRef (w : World) (X : Value) (K : Nat) (s : SS) (e : Ending) (w' : World) : Prop := ∃ X', e = .returned (.tuple #[X', .int .u64 s.allocV, .int .i64 s.allocE]) ∧ RefNext w X (K + s.words) s.alloc X' w'

theorem RefS.mono {w X K K' s} (h : RefS w X K s) (hk : K ≤ K') : RefS w X K' s := by
  obtain ⟨mv, gv, tv, fv, k, rfl, h⟩ := h
  exact ⟨mv, gv, tv, fv, k, rfl, h.cells, h.gens, h.taken, h.free, h.k0, by have := h.kK; omega⟩
theorem row_cases (l : List Nat) : l = [] ∨ ∃ q rest, l = q :: rest := by cases l <;> simp
theorem not_own {B n c : Nat} {j : Nat} (h : j ≠ B) : j ∉ (Value.slice (some ⟨B, 0, none⟩) n c).ownBlock.toList := by simp [Value.ownBlock]; omega

/-- the answer's slab while its cells are set to 0: A, B, C: the blocks of what came in, of the result, and of the copy -/
structure ZeroRel (w : World) (oA oB : Obj) (gv tv fv : Value) (k : Int) (s : SS) (q : Nat) (g : Int) (rest : List Nat) (mv0 : Value) (j : Nat) (mv : Value) (k' : Int) (wr : World) : Prop where
  old : ∀ b, mv.ownBlock = some b → mv0.ownBlock = some b ∨ w.heap.size + 1 + 1 < b
  fr : Fr [] w wr
  a : wr.heap[w.heap.size]? = some oA
  b : wr.heap[w.heap.size + 1]? = some oB
  c : wr.heap[w.heap.size + 1 + 1]? = some (.cells #[mv, .int .i64 k', .int .i64 s.first, .int .i64 s.words, gv, tv, fv] 32 (0, 0))
  mem : Ref wr mv (zeroed s.c (s.first + q * s.words) j)
  k0 : 0 ≤ k'
  k1 : k' ≤ k + j
  gens : Lies wr 3 1 gv s.recs.length ((s.recs.set q (g + 1, true)).map fun r => Value.int .i64 r.1)
  taken : Lies wr 4 1 tv s.recs.length ((s.recs.set q (g + 1, true)).map fun r => Value.bool r.2)
  free : Lies wr 3 1 fv rest.length (rest.map fun (q : Nat) => Value.int .i64 q)
  far : ∀ v, v = mv ∨ v = gv ∨ v = tv ∨ v = fv → ∀ b, v.ownBlock = some b → b < w.heap.size ∨ w.heap.size + 1 + 1 < b

theorem rstore_int (w : World) (a k x : Int) {v : Value} {cs : List Int} (h : Ref w v cs) (hl : cs.length ≤ 1000000) (h0 : 0 ≤ a) (ha : a < cs.length) (hk : 0 ≤ k) (hk' : k ≤ 1000000000000) :
    Calls Try.prog 31 #[.agg #[v, .int .i64 k], .int .i64 a, .int .u64 x] w (StoredRef w cs a.toNat x k) := by
  obtain ⟨a, rfl⟩ := Int.eq_ofNat_of_zero_le h0
  exact rstore_in w a k x h hl (by omega) hk hk'

set_option maxRecDepth 100000 in
set_option maxHeartbeats 2000000 in
theorem ralloc_any (w : World) {X : Value} {K : Nat} {s : SS} {G : Int} (h : RefS w X K s) (ho : s.Ok G) (hG : G ≤ 100000) (hK : K ≤ 100000000) (hrow : s.row.length ≤ 1000000) :
    Calls Try.prog 28 #[X] w (AllocRef w X K s) := by
  have hn := ho.nrec
  have HX := Lib.hid h
  have HO := Lib.hid ho
  obtain ⟨mv, gv, tv, fv, k, rfl, h⟩ := h
  have HS0 := Lib.hid h
  obtain ⟨⟨ma, mc, rfl⟩, ⟨ga, gc, rfl⟩, ⟨ta, tc, rfl⟩, ⟨fa, fc, rfl⟩⟩ := h.forms
  rcases row_cases s.row with hr | ⟨q, rest, hr⟩
  · have HR := Lib.hid hr
    have hl0 : s.row.length = 0 := by rw [hr]; rfl
    unfold refAgg at HX ⊢
    rw [hl0] at HX ⊢
    clear h ho hr hl0 HS0
    go_enter Try.func28, Try.ntmps28
    go_wp2
    refine bodyPost_ret (v := .tuple #[.agg #[.slice ma s.c.length mc, .int .i64 k, .int .i64 s.first, .int .i64 s.words, .slice ga s.recs.length gc, .slice ta s.recs.length tc, .slice fa 0 fc], .int .u64 0, .int .i64 7]) (by simp [results, Try.results28, go_sem]) rfl ⟨_, by rw [SS.allocV, SS.allocE, HR.out], ?_⟩
    have e : s.alloc = s := by rw [SS.alloc, HR.out]
    rw [e]
    exact ⟨(HX.out.mono (by omega)).keep (((Fr.refl [] w).alloc _).alloc _) (by simp), ((Fr.refl [] w).alloc _).alloc _, fun j hj => Or.inl hj⟩
  · have hq := ho.row q (by rw [hr]; simp)
    obtain ⟨m, hm⟩ : ∃ m, m = rest.length := ⟨_, rfl⟩
    have hlen : s.row.length = m + 1 := by rw [hr, hm]; rfl
    have hfree := h.free
    rw [hr] at hfree
    simp only [List.length_cons, List.map_cons] at hfree
    rw [← hm] at hfree
    obtain ⟨fg, fo, fc', hv, hfg, hfc, hcells⟩ := hfree.here (by omega)
    cases hv
    obtain ⟨cq, fq⟩ := hcells 0 (by omega)
    simp only [List.getElem?_cons_zero, Nat.add_zero] at cq fq
    obtain ⟨⟨gg, t⟩, hat⟩ : ∃ x, s.recs[q]? = some x := ⟨_, List.getElem?_eq_getElem hq⟩
    have hgg := ho.gen _ (List.mem_of_getElem? hat)
    simp only at hgg
    obtain ⟨g0, g1⟩ := hgg
    have hgen : s.gen q = gg := by rw [SS.gen, List.getD_eq_getElem?_getD, hat]; rfl
    obtain ⟨gg', go', gc', hv1, hg1, hgc, hgat⟩ := h.gens.here (by omega)
    cases hv1
    obtain ⟨dq, _⟩ := hgat q (by omega)
    rw [List.getElem?_map, hat] at dq
    simp only [Option.map_some] at dq
    have htail : ∀ fo', (fo' = fo + 1 * 1 ∨ (fc = 1 ∧ fo' = fo)) → Lies w 3 1 (.slice (some ⟨fg, fo', none⟩) m (fc - 1)) rest.length (rest.map fun (q : Nat) => Value.int .i64 q) := by
      intro fo' h
      rw [← hm]
      exact hfree.tail fo' h
    have HT := Lib.hid htail
    have HR := Lib.hid hr
    have HM := Lib.hid hm
    have HLEN := Lib.hid hlen
    have HAT := Lib.hid hat
    have HGEN := Lib.hid hgen
    have hwd := ho.word
    have hbig := ho.big
    have hfit := ho.fit
    have hq1 : (q + 1) * s.words ≤ s.recs.length * s.words := Nat.mul_le_mul_right _ hq
    rw [Nat.add_mul, Nat.one_mul] at hq1
    have hw64 : s.words ≤ 65536 := by omega
    have hq64 : q ≤ 65536 := by omega
    have hb : ((m : Int) + 1 == 0) = false := by simp; omega
    have hm6 : rest.length ≤ 1000000 := by omega
    unfold refAgg at HX ⊢
    rw [hlen] at HX ⊢
    have n1 : ¬ fg = w.heap.size := by omega
    have n2 : ¬ gg' = w.heap.size := by omega
    clear h ho hr hm hlen hfree hat hgen htail hcells hgat
    have hx1 : IntKind.i64.wrap (gg + 1) = gg + 1 := IntWalk.i64_in _ ⟨by omega, by omega⟩
    have HX1 := Lib.hid hx1
    clear hx1
    go_enter Try.func28, Try.ntmps28
    go_wp2_with (refine wpList_slice_from rfl (.tmp 22) (.const (.int .i64 1)) 29 3 (.int .i64 0) 1 8 rfl int_slice int_info fg fo (m + 1) fc 1 m rfl rfl rfl (by omega) ?sl)
    case sl =>
    intro fo' hfo'
    replace hfo' := Lib.hid hfo'
    go_wp2_with (at_builtin; refine wpList_append_any rfl (.tmp 20) (.tmp 23) 29 3 (.int .i64 0) 1 8 rfl int_slice int_info rfl (by decide) _ 0 [] rfl (lies_empty _ _ _ _ (by simp)) _ rest.length (rest.map fun (q : Nat) => Value.int .i64 q) rfl ?src (one_ints .i64 (fun (q : Nat) => (q : Int)) _) (by unfold maxLen; omega) (by omega) ?app)
    case src => exact (HT.out _ hfo'.out).keep ((((((Fr.refl [] w).alloc _).alloc _).alloc _).alloc _)) (by simp)
    case app =>
    intro fv1 w1 hown hfr hat
    replace hown : Lies w1 3 1 fv1 rest.length (rest.map fun (q : Nat) => Value.int .i64 q) := by simpa using hown
    have hfv1 : ∀ j, fv1.ownBlock = some j → w.heap.size + 1 + 1 < j := by
      intro j hj
      rcases hat j hj with h | h
      · first | omega | (simp [Value.ownBlock] at h; omega)
      · first | omega | (simp at h; omega)
    obtain ⟨hA, hB, hC⟩ := boxes4 hfr (not_own (by omega)) (not_own (by omega)) (not_own (by omega))
    have hF1 : Fr [] w w1 := ((((((Fr.refl [] w).alloc _).alloc _).alloc _).alloc _)).trans hfr (by intro k hk; simp [Value.ownBlock] at hk; exact Or.inr (by omega))
    have hs1 : w.heap.size + 1 + 1 < w1.heap.size := lt_of_block hC
    have hs1a : w.heap.size + 1 < w1.heap.size := by omega
    have hs1b : w.heap.size < w1.heap.size := by omega
    obtain ⟨a0, a1, a2, a3, a4, a5, a6, fa7⟩ := cells7 hA
    obtain ⟨b0, b1, b2, b3, b4, b5, b6, fb7⟩ := cells7 hB
    obtain ⟨c0, c1, c2, c3, c4, c5, c6, fc7⟩ := cells7 hC
    have HOWN1 := Lib.hid hown
    have HFV1 := Lib.hid hfv1
    have HF1 := Lib.hid hF1
    have HA1 := Lib.hid hA
    have HB1 := Lib.hid hB
    have HC1 := Lib.hid hC
    obtain ⟨fs1, fc1, rfl, _⟩ := hown.form
    clear hown hfr hat hfv1 hA hB hC hF1
    go_wp2_with (at_builtin; refine wpList_append_any rfl (.tmp 26) (.tmp 28) 29 3 (.int .i64 0) 1 8 rfl int_slice int_info rfl (by decide) _ 0 [] rfl (lies_empty _ _ _ _ (by simp)) _ s.recs.length (s.recs.map fun r => Value.int .i64 r.1) rfl ?src (one_ints .i64 (fun (r : Int × Bool) => r.1) _) (by unfold maxLen; omega) (by omega) ?app)
    case src => exact HS0.out.gens.keep ((HF1.out.setNew (by omega) _).alloc _) (by simp)
    case app =>
    intro gv2 w2 hown hfr hat
    replace hown : Lies w2 3 1 gv2 s.recs.length (s.recs.map fun r => Value.int .i64 r.1) := by simpa using hown
    obtain ⟨g2, o2, k2, rfl, hg2, hgc2, hcells⟩ := hown.here (by omega)
    have hg2' : w1.heap.size ≤ g2 := by
      rcases hat g2 rfl with h | h
      · first | omega | (simp [Value.ownBlock] at h; omega)
      · first | omega | (simp at h; omega)
    have hA := hfr.keep (blk_alloc (set_other HA1.out (by omega) 6 _) _) (not_own (by omega))
    have hB := hfr.keep (blk_alloc (set_other HB1.out (by omega) 6 _) _) (not_own (by omega))
    have hC := hfr.keep (blk_alloc (set_block HC1.out 6 (.slice fs1 rest.length fc1)) _) (not_own (by omega))
    have hT1 := ((HOWN1.out.other ⟨w.heap.size + 1 + 1, 6, none⟩ (by intro e; have := HFV1.out _ e; simp at this) (.slice fs1 rest.length fc1)).alloc (.cells #[] 3)).keep hfr (by intro j hj; exact not_own (by have := HOWN1.out.lt j hj; omega))
    have hF2 : Fr [] w w2 := ((HF1.out.setNew (o := 6) (by omega) _).alloc _).trans hfr (by intro k hk; simp [Value.ownBlock] at hk; exact Or.inr (by omega))
    obtain ⟨dq2, df2⟩ := hcells q (by omega)
    rw [List.getElem?_map, HAT.out] at dq2
    simp only [Option.map_some] at dq2
    have dq' := hF2.cell dq (by simp)
    have hs2 : w.heap.size + 1 + 1 < w2.heap.size := by have := hfr.size; simp at this; omega
    have hs2a : w.heap.size + 1 < w2.heap.size := by omega
    have hs2b : w.heap.size < w2.heap.size := by omega
    have hs2c : w1.heap.size < w2.heap.size := by have := hfr.size; simp at this; omega
    simp at hC
    clear a0 a1 a2 a3 a4 a5 a6 fa7 b0 b1 b2 b3 b4 b5 b6 fb7 c0 c1 c2 c3 c4 c5 c6 fc7
    obtain ⟨a0, a1, a2, a3, a4, a5, a6, fa7⟩ := cells7 hA
    obtain ⟨b0, b1, b2, b3, b4, b5, b6, fb7⟩ := cells7 hB
    obtain ⟨c0, c1, c2, c3, c4, c5, c6, fc7⟩ := cells7 hC
    have m1 : ¬ g2 = w.heap.size := by omega
    have m2 : ¬ g2 = w.heap.size + 1 := by omega
    have m3 : ¬ g2 = w.heap.size + 1 + 1 := by omega
    have m4 : ¬ w.heap.size + 1 + 1 = g2 := by omega
    have m5 : ¬ gg' = w.heap.size + 1 + 1 := by omega
    have m6 : ¬ g2 = gg' := by omega
    have m7 : ¬ gg' = g2 := by omega
    have m8 : ¬ w.heap.size = g2 := by omega
    have m9 : ¬ w.heap.size + 1 = g2 := by omega
    have HOWN2 := Lib.hid hown
    have HF2 := Lib.hid hF2
    have HA2 := Lib.hid hA
    have HB2 := Lib.hid hB
    have HC2 := Lib.hid hC
    have HT1 := Lib.hid hT1
    clear hown hfr hat hA hB hC hF2 hT1 hcells
    go_wp2_with fail
    have x1 := cs_same (.slice (some ⟨g2, o2, none⟩) s.recs.length k2) c4
    have x2 := cs_other ⟨w.heap.size + 1 + 1, 4, none⟩ (.slice (some ⟨g2, o2, none⟩) s.recs.length k2) a4 (addr_ne (by omega))
    have x3 := cs_other ⟨w.heap.size + 1 + 1, 4, none⟩ (.slice (some ⟨g2, o2, none⟩) s.recs.length k2) dq' (addr_ne (by omega))
    have x4 := cs_other ⟨w.heap.size + 1 + 1, 4, none⟩ (.slice (some ⟨g2, o2, none⟩) s.recs.length k2) dq2 (addr_ne (by omega))
    have x5 := fs_any ⟨w.heap.size + 1 + 1, 4, none⟩ (.slice (some ⟨g2, o2, none⟩) s.recs.length k2) df2
    have x6 := cs_other ⟨w.heap.size + 1 + 1, 4, none⟩ (.slice (some ⟨g2, o2, none⟩) s.recs.length k2) a5 (addr_ne (by omega))
    have hA := set_other HA2.out (show w.heap.size ≠ w.heap.size + 1 + 1 by omega) 4 (.slice (some ⟨g2, o2, none⟩) s.recs.length k2)
    have hB := set_other HB2.out (show w.heap.size + 1 ≠ w.heap.size + 1 + 1 by omega) 4 (.slice (some ⟨g2, o2, none⟩) s.recs.length k2)
    have hC := set_block HC2.out 4 (.slice (some ⟨g2, o2, none⟩) s.recs.length k2)
    have hsz2 : (w2.setCell ⟨w.heap.size + 1 + 1, 4, none⟩ (.slice (some ⟨g2, o2, none⟩) s.recs.length k2)).heap.size = w2.heap.size := World.size_setCell _ _ _
    have hF := HF2.out.setNew (b := w.heap.size + 1 + 1) (o := 4) (by omega) (.slice (some ⟨g2, o2, none⟩) s.recs.length k2)
    have hG := HOWN2.out.other ⟨w.heap.size + 1 + 1, 4, none⟩ (by simp [Value.ownBlock]; omega) (.slice (some ⟨g2, o2, none⟩) s.recs.length k2)
    have hT := HT1.out.other ⟨w.heap.size + 1 + 1, 4, none⟩ (by intro e; have := HFV1.out _ e; simp at this) (.slice (some ⟨g2, o2, none⟩) s.recs.length k2)
    clear a0 a1 a2 a3 a4 a5 a6 fa7 b0 b1 b2 b3 b4 b5 b6 fb7 c0 c1 c2 c3 c4 c5 c6 fc7 dq' dq2 df2
    generalize w2.setCell ⟨w.heap.size + 1 + 1, 4, none⟩ (.slice (some ⟨g2, o2, none⟩) s.recs.length k2) = W2 at *
    have hs3 : w.heap.size + 1 + 1 < W2.heap.size := by omega
    have hs3a : w.heap.size + 1 < W2.heap.size := by omega
    have hs3b : w.heap.size < W2.heap.size := by omega
    have hg3 : g2 < W2.heap.size := by omega
    simp at hC
    have HA3 := Lib.hid hA
    have HB3 := Lib.hid hB
    have HC3 := Lib.hid hC
    have HF3 := Lib.hid hF
    have HG3 := Lib.hid hG
    have HT3 := Lib.hid hT
    clear hA hB hC hF hG hT hsz2
    have hx1 := HX1.out
    go_region_held3 (fun w' => w'.cell? ⟨w.heap.size + 1 + 1, 4, none⟩ = some (.slice (some ⟨g2, o2, none⟩) s.recs.length k2) ∧ w'.cell? ⟨w.heap.size, 4, none⟩ = some (.slice (some ⟨gg', go', none⟩) s.recs.length gc) ∧ w'.cell? ⟨gg', go' + q, none⟩ = some (.int .i64 gg)) (go_keep) (fail)
    clear hx1
    go_wp2_with (at_builtin; refine wpList_append_any rfl (.tmp 41) (.tmp 43) 30 4 (.bool false) 1 1 rfl bool_slice bool_info rfl (by decide) _ 0 [] rfl (lies_empty _ _ _ _ (by simp)) _ s.recs.length (s.recs.map fun r => Value.bool r.2) rfl ?src (one_bools (fun (r : Int × Bool) => r.2) _) (by unfold maxLen; omega) (by omega) ?app)
    case src => exact HS0.out.taken.keep ((HF3.out.setNew (by omega) _).alloc _).drew (by simp)
    case app =>
    intro tv3 w3 hown hfr hat
    replace hown : Lies w3 4 1 tv3 s.recs.length (s.recs.map fun r => Value.bool r.2) := by simpa using hown
    obtain ⟨g3, o3, k3, rfl, hg3, hgc3, hcells⟩ := hown.here (by omega)
    have hg3' : W2.heap.size ≤ g3 := by
      rcases hat g3 rfl with h | h
      · first | omega | (simp [Value.ownBlock] at h; omega)
      · first | omega | (simp at h; omega)
    have hA := hfr.keep (blk_alloc (set_other HA3.out m8 (o2 + q) _) _) (not_own (by omega))
    have hB := hfr.keep (blk_alloc (set_other HB3.out m9 (o2 + q) _) _) (not_own (by omega))
    have hC := hfr.keep (blk_alloc (set_other HC3.out m4 (o2 + q) _) _) (not_own (by omega))
    have hG := ((HG3.out.set q (.int .i64 (gg + 1))).alloc (.cells #[] 4)).drew.keep hfr (by intro j hj; simp [Value.ownBlock] at hj; exact not_own (by omega))
    have hT := ((HT3.out.other ⟨g2, o2 + q, none⟩ (by intro e; have h := HT1.out.lt _ e; have h2 := HFV1.out _ e; simp at h h2; have := HOWN1.out.lt _ e; simp at this; omega) (.int .i64 (gg + 1))).alloc (.cells #[] 4)).drew.keep hfr (by intro j hj; exact not_own (by have := HOWN1.out.lt j hj; omega))
    have hF := (((HF3.out.setNew (b := g2) (o := o2 + q) (by omega) (.int .i64 (gg + 1))).alloc (.cells #[] 4)).drew).trans hfr (by intro k hk; simp [Value.ownBlock] at hk; exact Or.inr (by omega))
    obtain ⟨dq3, df3⟩ := hcells q (by omega)
    rw [List.getElem?_map, HAT.out] at dq3
    simp only [Option.map_some] at dq3
    have hs4 : w.heap.size + 1 + 1 < w3.heap.size := lt_of_block hC
    obtain ⟨c0, c1, c2, c3, c4, c5, c6, fc7⟩ := cells7 hC
    have m10 : ¬ g3 = w.heap.size + 1 + 1 := by omega
    have m11 : ¬ w.heap.size + 1 + 1 = g3 := by omega
    have m12 : ¬ g3 = w.heap.size := by omega
    have m13 : ¬ g3 = w.heap.size + 1 := by omega
    have hstart : ZeroRel w (.cells #[.slice ma s.c.length mc, .int .i64 k, .int .i64 s.first, .int .i64 s.words, .slice (some ⟨gg', go', none⟩) s.recs.length gc, .slice ta s.recs.length tc, .slice (some ⟨fg, fo, none⟩) (m + 1) fc] 32 (0, 0))
        (.cells #[.slice none 0 0, .int .i64 0, .int .i64 0, .int .i64 0, .slice none 0 0, .slice none 0 0, .slice none 0 0] 32 (0, 0)) (.slice (some ⟨g2, o2, none⟩) s.recs.length k2) (.slice (some ⟨g3, o3, none⟩) s.recs.length k3) (.slice fs1 rest.length fc1) k s q gg rest (.slice ma s.c.length mc) 0 (.slice ma s.c.length mc) k
        ((w3.setCell ⟨w.heap.size + 1 + 1, 5, none⟩ (.slice (some ⟨g3, o3, none⟩) s.recs.length k3)).setCell ⟨g3, o3 + q, none⟩ (.bool true)) := by
      have hh := HS0.out
      have hFin := (hF.setNew (b := w.heap.size + 1 + 1) (o := 5) (by omega) (.slice (some ⟨g3, o3, none⟩) s.recs.length k3)).setNew (b := g3) (o := o3 + q) (by omega) (.bool true)
      have hf1 : ∀ j, (Value.slice fs1 rest.length fc1).ownBlock = some j → w.heap.size + 1 + 1 < j ∧ j < w1.heap.size := fun j hj => ⟨HFV1.out j hj, HOWN1.out.lt j hj⟩
      refine ⟨fun b hb => Or.inl hb, hFin, set_other (set_other hA (by omega) 5 _) (by omega) _ _, set_other (set_other hB (by omega) 5 _) (by omega) _ _, ?_, hh.cells.keep hFin (by simp), hh.k0, by omega, ?_, ?_, ?_, ?_⟩
      · simpa using set_other (set_block hC 5 (.slice (some ⟨g3, o3, none⟩) s.recs.length k3)) m11 (o3 + q) (.bool true)
      · have := (hG.other ⟨w.heap.size + 1 + 1, 5, none⟩ (by simp [Value.ownBlock]; omega) (.slice (some ⟨g3, o3, none⟩) s.recs.length k3)).other ⟨g3, o3 + q, none⟩ (by simp [Value.ownBlock]; omega) (.bool true)
        simpa [List.map_set] using this
      · have := (hown.other ⟨w.heap.size + 1 + 1, 5, none⟩ (by simp [Value.ownBlock]; omega) (.slice (some ⟨g3, o3, none⟩) s.recs.length k3)).set q (.bool true)
        simpa [List.map_set] using this
      · exact (hT.other ⟨w.heap.size + 1 + 1, 5, none⟩ (by intro e; have := hf1 _ e; simp at this) _).other ⟨g3, o3 + q, none⟩ (by intro e; have := hf1 _ e; simp at this; omega) _
      · rintro v (rfl | rfl | rfl | rfl) b hb
        · exact Or.inl ((hh.cells.lt b hb).2)
        · simp [Value.ownBlock] at hb; omega
        · simp [Value.ownBlock] at hb; omega
        · exact Or.inr (hf1 b hb).1
    have HS := Lib.hid hstart
    clear hown hfr hat hA hB hC hG hT hF hcells hstart x1 x2 x3 x4 x5 x6
    have hmul : (q : Int) * s.words = ((q * s.words : Nat) : Int) := by simp
    have hy1 := IntWalk.i64_in ((q : Int) * s.words) ⟨by rw [hmul]; omega, by rw [hmul]; omega⟩
    have hy2 := IntWalk.i64_in ((s.first : Int) + q * s.words) ⟨by rw [hmul]; omega, by rw [hmul]; omega⟩
    have HY1 := Lib.hid hy1
    have HY2 := Lib.hid hy2
    have HMUL := Lib.hid hmul
    have hkK := HS0.out.kK
    clear hmul hy1 hy2
    go_wp2_with fail
    clear c0 c1 c2 c3 c4 c5 c6 fc7 dq3 df3
    go_loopw [7] (fun i wr => ∃ (j : Nat) (mv' : Value) (k' : Int), i = .int .i64 j ∧ j ≤ s.words ∧ ZeroRel w (.cells #[.slice ma s.c.length mc, .int .i64 k, .int .i64 s.first, .int .i64 s.words, .slice (some ⟨gg', go', none⟩) s.recs.length gc, .slice ta s.recs.length tc, .slice (some ⟨fg, fo, none⟩) (m + 1) fc] 32 (0, 0)) (.cells #[.slice none 0 0, .int .i64 0, .int .i64 0, .int .i64 0, .slice none 0 0, .slice none 0 0, .slice none 0 0] 32 (0, 0)) (.slice (some ⟨g2, o2, none⟩) s.recs.length k2) (.slice (some ⟨g3, o3, none⟩) s.recs.length k3) (.slice fs1 rest.length fc1) k s q gg rest (.slice ma s.c.length mc) j mv' k' wr) (fun i _ => s.words - (intOf i).toNat)
    case atStart => exact ⟨0, _, k, rfl, Nat.zero_le _, HS.out⟩
    case round =>
      obtain ⟨j, mv', k', rfl, hj, hz⟩ := hrel
      obtain ⟨a0, a1, a2, a3, a4, a5, a6, fa7⟩ := cells7 hz.a
      obtain ⟨b0, b1, b2, b3, b4, b5, b6, fb7⟩ := cells7 hz.b
      obtain ⟨c0, c1, c2, c3, c4, c5, c6, fc7⟩ := cells7 hz.c
      have hsr : w.heap.size + 1 + 1 < wr.heap.size := lt_of_block hz.c
      have hmf : ∃ a c, mv' = .slice a s.c.length c := by
        obtain ⟨a, c, h⟩ := hz.mem.form
        rw [zeroed_len] at h; exact ⟨a, c, h⟩
      obtain ⟨ma', mc', rfl⟩ := hmf
      by_cases hlt : j < s.words
      · have hy1 := HY1.out
        have hy2 := HY2.out
        have hy3 := IntWalk.i64_in ((s.first : Int) + q * s.words + j) ⟨by rw [HMUL.out]; omega, by rw [HMUL.out]; omega⟩
        have HST := Lib.hid (rstore_int wr ((s.first : Int) + q * s.words + j) k' 0 hz.mem (by rw [zeroed_len]; omega) (by rw [HMUL.out]; omega) (by rw [HMUL.out, zeroed_len]; omega) hz.k0 (by have := hz.k1; omega))
        have HZ := Lib.hid hz
        clear hz
        go_wp2_with (go_at_call 31; refine HST.out.mono ?_; rintro e w4 ⟨g', c', rfl, hnew⟩; refine go_stop ?_)
        rw [zeroed_len]
        have hnew' : NewRef wr (.slice (some ⟨g', 0, none⟩) s.c.length c') (zeroed s.c (s.first + q * s.words) (j + 1)) w4 := by
          have h := hnew
          rw [zeroed_len] at h
          rw [show ((s.first : Int) + q * s.words + j).toNat = s.first + q * s.words + j from by rw [HMUL.out]; omega] at h
          exact h
        have hg' : wr.heap.size ≤ g' := hnew'.2.2 g' rfl
        have hg4 : g' < w4.heap.size := (hnew'.1.lt g' rfl).2
        have hA := hnew'.2.1.keep HZ.out.a (by simp)
        have hB := hnew'.2.1.keep HZ.out.b (by simp)
        have hC := hnew'.2.1.keep HZ.out.c (by simp)
        have hs5 : w.heap.size + 1 + 1 < w4.heap.size := lt_of_block hC
        clear c0 c1 c2 c3 c4 c5 c6 fc7 a0 a1 a2 a3 a4 a5 a6 fa7 b0 b1 b2 b3 b4 b5 b6 fb7
        obtain ⟨c0, c1, c2, c3, c4, c5, c6, fc7⟩ := cells7 hC
        have r1 : ¬ g' = w.heap.size + 1 + 1 := by omega
        have r2 : ¬ w4.heap.size = w.heap.size + 1 + 1 := by omega
        have hnext : ∀ o u0 u1, u0 = Value.slice (some ⟨g', 0, none⟩) s.c.length c' → u1 = Value.int .i64 (k' + 1) → ZeroRel w (.cells #[.slice ma s.c.length mc, .int .i64 k, .int .i64 s.first, .int .i64 s.words, .slice (some ⟨gg', go', none⟩) s.recs.length gc, .slice ta s.recs.length tc, .slice (some ⟨fg, fo, none⟩) (m + 1) fc] 32 (0, 0)) (.cells #[.slice none 0 0, .int .i64 0, .int .i64 0, .int .i64 0, .slice none 0 0, .slice none 0 0, .slice none 0 0] 32 (0, 0)) (.slice (some ⟨g2, o2, none⟩) s.recs.length k2) (.slice (some ⟨g3, o3, none⟩) s.recs.length k3) (.slice fs1 rest.length fc1) k s q gg rest (.slice ma s.c.length mc) (j + 1) (.slice (some ⟨g', 0, none⟩) s.c.length c') (k' + 1)
            (((w4.setCell ⟨w.heap.size + 1 + 1, 0, none⟩ u0).setCell ⟨w.heap.size + 1 + 1, 1, none⟩ u1).alloc o) := by
          rintro o u0 u1 rfl rfl
          have hh := HZ.out
          have hF0 : Fr [w.heap.size + 1 + 1] wr (((w4.setCell ⟨w.heap.size + 1 + 1, 0, none⟩ (.slice (some ⟨g', 0, none⟩) s.c.length c')).setCell ⟨w.heap.size + 1 + 1, 1, none⟩ (.int .i64 (k' + 1))).alloc o) :=
            (((hnew'.2.1.mono (by simp)).setCell (Or.inl (by simp)) _).setCell (Or.inl (by simp)) _).alloc o
          have hfar : ∀ v : Value, v = (.slice (some ⟨g2, o2, none⟩) s.recs.length k2) ∨ v = (.slice (some ⟨g3, o3, none⟩) s.recs.length k3) ∨ v = (.slice fs1 rest.length fc1) → ∀ b, v.ownBlock = some b → b ∉ [w.heap.size + 1 + 1] := by
            intro v hv b hb
            have := hh.far v (Or.inr hv) b hb
            simp; omega
          refine ⟨fun b hb => by simp [Value.ownBlock] at hb; exact Or.inr (by omega), hh.fr.trans hF0 (by intro x hx; simp at hx; exact Or.inr (by omega)), hF0.keep hh.a (by simp; omega), hF0.keep hh.b (by simp), ?_, ?_, by have := hh.k0; omega, by have := hh.k1; omega, hh.gens.keep hF0 (hfar _ (Or.inl rfl)), hh.taken.keep hF0 (hfar _ (Or.inr (Or.inl rfl))), hh.free.keep hF0 (hfar _ (Or.inr (Or.inr rfl))), ?_⟩
          · have := blk_alloc (set_block (set_block hC 0 (.slice (some ⟨g', 0, none⟩) s.c.length c')) 1 (.int .i64 (k' + 1))) o
            simpa using this
          · exact (ownsRow_setCell_other (ownsRow_setCell_other hnew'.1 (a := ⟨w.heap.size + 1 + 1, 0, none⟩) (by simp [Value.ownBlock]; omega) _) (a := ⟨w.heap.size + 1 + 1, 1, none⟩) (by simp [Value.ownBlock]; omega) _).alloc o
          · rintro v (rfl | hv) b hb
            · simp [Value.ownBlock] at hb; omega
            · exact hh.far v (Or.inr hv) b hb
        have HN := Lib.hid hnext
        clear hnew hnew' hA hB hC hnext hy1 hy2 hy3
        unfold Stop
        go_wp2
        go_roundw
        case rel => exact ⟨j + 1, _, k' + 1, by go_num, by omega, HN.out _ _ _ rfl rfl⟩
        case measure => simp [intOf]; omega
      · obtain rfl : j = s.words := by omega
        obtain ⟨gx, gy, gz, hv2, _, _, hcells⟩ := hz.gens.here (by omega)
        cases hv2
        obtain ⟨dq4, df4⟩ := hcells q (by omega)
        rw [List.getElem?_map, show (s.recs.set q (gg + 1, true))[q]? = some (gg + 1, true) by simp [hq]] at dq4
        simp only [Option.map_some] at dq4
        have HREF := Lib.hid (fun X => rref_any q (gg + 1) X (by omega) (by omega) (by omega) (by omega))
        have hval : s.allocV = mkr q (gg + 1) ∧ s.allocE = 0 ∧ s.alloc = { s with row := rest, recs := s.recs.set q (gg + 1, true), c := zeroed s.c (s.first + q * s.words) s.words } := by
          rw [SS.allocV, SS.allocE, SS.alloc, HR.out, ← HGEN.out]
          exact ⟨rfl, rfl, rfl⟩
        have HV := Lib.hid hval
        have HZ := Lib.hid hz
        clear hz hcells hval
        go_wp2_with fail
        go_region_held3 (fun w' => w'.cell? ⟨w.heap.size + 1 + 1, 0, none⟩ = some (.slice ma' s.c.length mc') ∧ w'.cell? ⟨w.heap.size + 1 + 1, 1, none⟩ = some (.int .i64 k') ∧ w'.cell? ⟨w.heap.size + 1 + 1, 2, none⟩ = some (.int .i64 s.first) ∧ w'.cell? ⟨w.heap.size + 1 + 1, 3, none⟩ = some (.int .i64 s.words) ∧ w'.cell? ⟨w.heap.size + 1 + 1, 4, none⟩ = some (.slice (some ⟨g2, o2, none⟩) s.recs.length k2) ∧ w'.cell? ⟨w.heap.size + 1 + 1, 5, none⟩ = some (.slice (some ⟨g3, o3, none⟩) s.recs.length k3) ∧ w'.cell? ⟨w.heap.size + 1 + 1, 6, none⟩ = some (.slice fs1 rest.length fc1) ∧ w'.cell? ⟨g2, o2 + q, none⟩ = some (.int .i64 (gg + 1))) (go_keep) (first | (go_at_call 39; refine (HREF.out _).mono ?_; rintro e w5 ⟨rfl, rfl⟩))
        go_wp2
        refine bodyPost_ret (v := .tuple #[.agg #[.slice ma' s.c.length mc', .int .i64 k', .int .i64 s.first, .int .i64 s.words, .slice (some ⟨g2, o2, none⟩) s.recs.length k2, .slice (some ⟨g3, o3, none⟩) s.recs.length k3, .slice fs1 rest.length fc1], .int .u64 (mkr q (gg + 1)), .int .i64 0]) (by simp [results, Try.results28, go_sem, *]) rfl ⟨_, by rw [HV.out.1, HV.out.2.1], ?_⟩
        rw [HV.out.2.2]
        have hh := HZ.out
        have hF : ∀ u0 u1 u2 u3 u4 u5 u6, Fr [w.heap.size + 1] wr (((((((wr.setCell ⟨w.heap.size + 1, 0, none⟩ u0).setCell ⟨w.heap.size + 1, 1, none⟩ u1).setCell ⟨w.heap.size + 1, 2, none⟩ u2).setCell ⟨w.heap.size + 1, 3, none⟩ u3).setCell ⟨w.heap.size + 1, 4, none⟩ u4).setCell ⟨w.heap.size + 1, 5, none⟩ u5).setCell ⟨w.heap.size + 1, 6, none⟩ u6).drew := fun u0 u1 u2 u3 u4 u5 u6 =>
          (((((((Fr.refl _ wr).setCell (Or.inl (by simp)) u0).setCell (Or.inl (by simp)) u1).setCell (Or.inl (by simp)) u2).setCell (Or.inl (by simp)) u3).setCell (Or.inl (by simp)) u4).setCell (Or.inl (by simp)) u5).setCell (Or.inl (by simp)) u6 |>.drew
        have hfar : ∀ v : Value, (v = .slice ma' s.c.length mc' ∨ v = .slice (some ⟨g2, o2, none⟩) s.recs.length k2 ∨ v = .slice (some ⟨g3, o3, none⟩) s.recs.length k3 ∨ v = .slice fs1 rest.length fc1) → ∀ b, v.ownBlock = some b → b ∉ [w.heap.size + 1] := by
          intro v hv b hb
          have := hh.far v hv b hb
          simp; omega
        refine ⟨⟨_, _, _, _, k', rfl, ⟨hh.mem.keep (hF _ _ _ _ _ _ _) (hfar _ (Or.inl rfl)), ?_, ?_, hh.free.keep (hF _ _ _ _ _ _ _) (hfar _ (Or.inr (Or.inr (Or.inr rfl)))), hh.k0, by have := hh.k1; omega⟩⟩, hh.fr.trans (hF _ _ _ _ _ _ _) (by intro x hx; simp at hx; exact Or.inr (by omega)), ?_⟩
        · simpa using hh.gens.keep (hF _ _ _ _ _ _ _) (hfar _ (Or.inr (Or.inl rfl)))
        · simpa using hh.taken.keep (hF _ _ _ _ _ _ _) (hfar _ (Or.inr (Or.inr (Or.inl rfl))))
        · intro b hb
          have hb := (blks_refAgg (.slice ma' s.c.length mc') (.slice (some ⟨g2, o2, none⟩) s.recs.length k2) (.slice (some ⟨g3, o3, none⟩) s.recs.length k3) (.slice fs1 rest.length fc1) k' s b).1 hb
          rw [show blks (Value.agg #[.slice ma s.c.length mc, .int .i64 k, .int .i64 s.first, .int .i64 s.words, .slice (some ⟨gg', go', none⟩) s.recs.length gc, .slice ta s.recs.length tc, .slice (some ⟨fg, fo, none⟩) (m + 1) fc]) = blks (refAgg (.slice ma s.c.length mc) (.slice (some ⟨gg', go', none⟩) s.recs.length gc) (.slice ta s.recs.length tc) (.slice (some ⟨fg, fo, none⟩) (m + 1) fc) k s) from rfl, blks_refAgg]
          rcases hb with h | h | h | h
          · rcases hh.old b h with h1 | h1
            · exact Or.inl (Or.inl h1)
            · exact Or.inr (by omega)
          · simp [Value.ownBlock] at h; exact Or.inr (by omega)
          · simp [Value.ownBlock] at h; exact Or.inr (by omega)
          · have := HFV1.out b h; exact Or.inr (by omega)
end Go.Proofs.Ytkampbbginamhaa
