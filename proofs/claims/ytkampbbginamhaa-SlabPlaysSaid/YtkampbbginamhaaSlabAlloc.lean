/- CONTRACT OF slab's Alloc -/
import Derived.Test.YtkampbbginamhaaSlabOps
namespace Go.Proofs.Ytkampbbginamhaa
open Go.RowKit
set_option linter.unusedVariables false
set_option linter.unusedSimpArgs false

def zeroed (c : List Int) (a : Nat) : Nat → List Int
  | 0 => c
  | n + 1 => (zeroed c a n).set (a + n) 0
theorem zeroed_len (c : List Int) (a : Nat) : ∀ n, (zeroed c a n).length = c.length
  | 0 => rfl
  | n + 1 => by simp [zeroed, zeroed_len c a n]
def SS.gen (s : SS) (q : Nat) : Int := (s.recs.getD q (0, false)).1
def SS.alloc (s : SS) : SS := match s.row with
  | [] => s
  | q :: rest => { s with row := rest, recs := s.recs.set q (s.gen q + 1, true), c := zeroed s.c (s.first + q * s.words) s.words }
def SS.allocV (s : SS) : Int := match s.row with
  | [] => 0
  | q :: _ => mkr q (s.gen q + 1)
def SS.allocE (s : SS) : Int := match s.row with
  | [] => 7
  | _ => 0

/-- the stores of Alloc ahead of its loop -/
theorem slab_taken {w : World} {p pm g c q m : Nat} {mv fv fv' : Value} {n : Nat} {s : SS} {gg : Int} {t : Bool} {rest : List Nat} (h : SlabAt w p pm mv (.slice (some ⟨g, 0, none⟩) s.recs.length c) fv n s)
    (hat : s.recs[q]? = some (gg, t)) (ht : Lies w 3 1 fv' m (rest.map fun (q : Nat) => Value.int .i64 q)) (hm : m = rest.length) (hf : fv'.ownBlock = fv.ownBlock) :
    SlabAt (((w.setCell ⟨p, 4, none⟩ fv').setCell ⟨g, q * 2, none⟩ (.int .i64 (gg + 1))).setCell ⟨g, q * 2 + 1, none⟩ (.bool true)) p pm mv (.slice (some ⟨g, 0, none⟩) s.recs.length c) fv' n
      { s with row := rest, recs := s.recs.set q (gg + 1, true) } := by
  subst hm
  have hne := h.ne
  have hgp : p ≠ g := fun e => hne.2.2.1 (by simp [Value.ownBlock, e])
  have hgpm : pm ≠ g := fun e => hne.2.2.2.2.1 (by simp [Value.ownBlock, e])
  have hF : Fr [p, g] w (((w.setCell ⟨p, 4, none⟩ fv').setCell ⟨g, q * 2, none⟩ (.int .i64 (gg + 1))).setCell ⟨g, q * 2 + 1, none⟩ (.bool true)) :=
    (((Fr.refl [p, g] w).setCell (Or.inl (by simp)) _).setCell (Or.inl (by simp)) _).setCell (Or.inl (by simp)) _
  refine ⟨?_, ?_, ?_, ?_, ?_⟩
  · have h1 := set_block h.blk 4 fv'
    have h2 := set_other (set_other h1 hgp (q * 2) (.int .i64 (gg + 1))) hgp (q * 2 + 1) (.bool true)
    simpa using h2
  · exact h.mem.keep hF (by simp; exact ⟨hne.1.symm, hgpm⟩) (by intro k hk; simp; exact ⟨fun e => hne.2.1 (by rw [hk, e]), fun e => (hne.2.2.2.2.2.2.1 g rfl).1 (by rw [hk, e])⟩)
  · have h1 := ownsRow_setCell_other h.recs (a := ⟨p, 4, none⟩) (by simp [Value.ownBlock]; exact hgp.symm) fv'
    have h2 := owns_set (owns_set h1 (q * 2) (.int .i64 (gg + 1))) (q * 2 + 1) (.bool true)
    rw [← recCells_set] at h2
    simpa using h2
  · exact ht.keep hF (by intro k hk; rw [hf] at hk; simp; exact ⟨fun e => hne.2.2.2.1 (by rw [hk, e]), fun e => (hne.2.2.2.2.2.2.1 g rfl).2 (by rw [hk, e])⟩)
  · have := h.sep; rw [← hf] at this; exact this

theorem SlabAt.same {w w' p pm mv rv fv n s} (h : SlabAt w p pm mv rv fv n s) (hh : w'.heap = w.heap) : SlabAt w' p pm mv rv fv n s := by
  obtain ⟨h1, ⟨h2, h3, h4⟩, h5, h6, h7⟩ := h
  exact ⟨by rw [hh]; exact h1, ⟨by rw [hh]; exact h2, by unfold World.ownsRow at h3 ⊢; rw [hh]; exact h3, h4⟩, by unfold World.ownsRow at h5 ⊢; rw [hh]; exact h5, by unfold Lies at h6 ⊢; rw [hh]; exact h6, h7⟩
theorem MS.err_yes {m : MS} {k : Int} (h : m.has k = true) : m.err k = 0 := by simp [MS.err, h]
theorem SlabAt.stored {w p pm mv rv fv n s} (h : SlabAt w p pm mv rv fv n s) {w' : World} {c' : List Int} {n' : Nat} (hm : MemAt w' pm mv ⟨c', n'⟩) (hf : Fr (MemAt.foot pm mv) w w') : SlabAt w' p pm mv rv fv n' { s with c := c' } := by
  have hne := h.ne
  refine ⟨hf.keep h.blk (by simp [MemAt.foot]; exact ⟨hne.1, hne.2.1⟩), hm, ownsRow_fr hf h.recs ?_, h.free.keep hf ?_, h.sep⟩
  · intro k hk; simp [MemAt.foot]; exact ⟨fun e => hne.2.2.2.2.1 (by rw [hk, e]), (hne.2.2.2.2.2.2.1 k hk).1⟩
  · intro k hk; simp [MemAt.foot]; exact ⟨fun e => hne.2.2.2.2.2.1 (by rw [hk, e]), hne.2.2.2.2.2.2.2 k hk⟩

theorem slab_alloc (w : World) (p pm : Nat) {mv rv fv n s G} (h : SlabAt w p pm mv rv fv n s) (ho : s.Ok G) (hG : G ≤ 100000) (hrow : s.row.length ≤ 1000000) (hn : n ≤ 100000000) :
    Calls Try.prog 22 #[.pointer (some ⟨p, 0, none⟩)] w fun e w' => e = .returned (.tuple #[.int .u64 s.allocV, .int .i64 s.allocE]) ∧ SlabOut w p pm mv rv fv (n + s.words) s.alloc w' := by
  have hnr := ho.nrec
  have c4 := cell_block h.blk 4
  have f4 := free_block h.blk 4
  simp at c4
  have H := Lib.hid h
  have HO := Lib.hid ho
  cases hr : s.row with
  | nil =>
    have hfl : ∃ a c, fv = .slice a 0 c := by
      obtain ⟨a, c, hv, _⟩ := h.free.form
      rw [hr] at hv; exact ⟨a, c, hv⟩
    obtain ⟨a, c, rfl⟩ := hfl
    have HR := Lib.hid hr
    clear h ho hr
    go_enter Try.func22, Try.ntmps22
    go_wp2
    go_ret2
    refine ⟨by rw [SS.allocV, SS.allocE, HR.out]; rfl, ?_⟩
    rw [SS.alloc, HR.out]
    exact ⟨_, n, H.out, by omega, Fr.refl _ _, fun k hk => Or.inl hk⟩
  | cons q rest =>
    have hq := ho.row q (by rw [hr]; simp)
    obtain ⟨m, hm⟩ : ∃ m, m = rest.length := ⟨_, rfl⟩
    have hlen : s.row.length = m + 1 := by rw [hr, hm]; rfl
    have hfree := h.free
    rw [hr] at hfree
    simp only [List.length_cons, List.map_cons] at hfree
    obtain ⟨fg, fo, fc, rfl, hfg, hfc, hcells⟩ := hfree.here (by omega)
    obtain ⟨cq, fq⟩ := hcells 0 (by omega)
    simp only [List.getElem?_cons_zero, Nat.add_zero] at cq fq
    rcases owns_form h.recs with ⟨_, hn0⟩ | ⟨g, c, rfl, hg, hc⟩
    · omega
    obtain ⟨⟨gg, t⟩, hat⟩ : ∃ x, s.recs[q]? = some x := ⟨_, List.getElem?_eq_getElem hq⟩
    have hgg := ho.gen _ (List.mem_of_getElem? hat)
    simp only at hgg
    obtain ⟨g0, g1⟩ := hgg
    have hgen : s.gen q = gg := by rw [SS.gen, List.getD_eq_getElem?_getD, hat]; rfl
    obtain ⟨r0, r1⟩ := recCells_at _ _ _ _ hat
    have d0 := h.recs.cells (g := g) rfl _ _ r0
    have d1 := h.recs.cells (g := g) rfl _ _ r1
    have e0 := owns_free h.recs (q * 2)
    have e1 := owns_free h.recs (q * 2 + 1)
    simp only [Addr.add_lit, Nat.zero_add] at d0 d1
    have c0 := cell_block h.blk 0
    have c1 := cell_block h.blk 1
    have c2 := cell_block h.blk 2
    have c3 := cell_block h.blk 3
    simp at c0 c1 c2 c3
    have hne := h.ne
    have hgp : ¬ g = p := fun e => hne.2.2.1 (by simp [Value.ownBlock, e])
    have hpg : ¬ p = g := fun e => hgp e.symm
    have hfgp : ¬ fg = p := fun e => hne.2.2.2.1 (by simp [Value.ownBlock, e])
    have hfgg : ¬ fg = g := fun e => (hne.2.2.2.2.2.2.1 g rfl).2 (by simp [Value.ownBlock, e])
    have hgpm : ¬ g = pm := fun e => hne.2.2.2.2.1 (by simp [Value.ownBlock, e])
    have HNE := Lib.hid hne
    have HR := Lib.hid hr
    have HM := Lib.hid hm
    have HLEN := Lib.hid hlen
    have HF := Lib.hid hfree
    have HAT := Lib.hid hat
    have HGEN := Lib.hid hgen
    obtain ⟨fo', hfo'⟩ : ∃ fo', fo' = if fc = 1 then fo else fo + 1 := ⟨_, rfl⟩
    have htail : Lies w 3 1 (.slice (some ⟨fg, fo', none⟩) m (fc - 1)) m (rest.map fun (q : Nat) => Value.int .i64 q) := by
      rw [← hm] at hfree
      refine hfree.tail fo' ?_
      by_cases h1 : fc = 1
      · rw [if_pos h1] at hfo'; exact Or.inr ⟨h1, hfo'⟩
      · rw [if_neg h1] at hfo'; exact Or.inl hfo'
    have HT := Lib.hid htail
    rw [← hm] at hfc c4
    clear h ho hr hm hlen hfree hat hgen htail r0 r1 hcells hne
    have hb : ((m : Int) + 1 == 0) = false := by simp; omega
    have hwd := HO.out.word
    have hbig := HO.out.big
    have hfit := HO.out.fit
    have hq1 : (q + 1) * s.words ≤ s.recs.length * s.words := Nat.mul_le_mul_right _ hq
    rw [Nat.add_mul, Nat.one_mul] at hq1
    have hw64 : s.words ≤ 65536 := by omega
    obtain ⟨fv', hfv'⟩ : ∃ fv' : Value, fv' = .slice (some ⟨fg, fo', none⟩) m (fc - 1) := ⟨_, rfl⟩
    have hstart : ∀ x, x = fv' → SlabAt (((w.setCell ⟨p, 4, none⟩ x).setCell ⟨g, q * 2, none⟩ (.int .i64 (gg + 1))).setCell ⟨g, q * 2 + 1, none⟩ (.bool true)) p pm mv (.slice (some ⟨g, 0, none⟩) s.recs.length c) fv' n
      { s with row := rest, recs := s.recs.set q (gg + 1, true) } := by
      rintro x rfl
      rw [hfv']
      exact slab_taken H.out HAT.out HT.out HM.out rfl
    have HS := Lib.hid hstart
    have HFV := Lib.hid hfv'
    obtain ⟨FT, hFT⟩ : ∃ FT, FT = SlabAt.foot p pm mv (.slice (some ⟨g, 0, none⟩) s.recs.length c) (.slice (some ⟨fg, fo, none⟩) (rest.length + 1) fc) := ⟨_, rfl⟩
    have hfr : ∀ fv', Fr FT w (((w.setCell ⟨p, 4, none⟩ fv').setCell ⟨g, q * 2, none⟩ (.int .i64 (gg + 1))).setCell ⟨g, q * 2 + 1, none⟩ (.bool true)) := fun fv' =>
      (((Fr.refl _ w).setCell (Or.inl (by simp [hFT, SlabAt.foot])) _).setCell (Or.inl (by simp [hFT, SlabAt.foot, Value.ownBlock])) _).setCell (Or.inl (by simp [hFT, SlabAt.foot, Value.ownBlock])) _
    have hsub : ∀ k ∈ MemAt.foot pm mv, k ∈ FT := by
      intro k hk
      simp only [MemAt.foot, List.mem_cons, Option.mem_toList] at hk
      simp only [hFT, SlabAt.foot, List.mem_cons, List.mem_append, Option.mem_toList]
      rcases hk with rfl | hk
      · exact Or.inr (Or.inl rfl)
      · exact Or.inr (Or.inr (Or.inl hk))
    have hown' : ∀ k, fv'.ownBlock = some k → k = fg := by intro k hk; rw [hfv'] at hk; simpa [Value.ownBlock] using hk.symm
    have HSUB := Lib.hid hsub
    have HOWN := Lib.hid hown'
    have HFT := Lib.hid hFT
    have HFR := Lib.hid hfr
    have hval : s.allocV = mkr q (gg + 1) ∧ s.allocE = 0 ∧ s.alloc = { s with row := rest, recs := s.recs.set q (gg + 1, true), c := zeroed s.c (s.first + q * s.words) s.words } := by
      rw [SS.allocV, SS.allocE, SS.alloc, HR.out, ← HGEN.out]
      exact ⟨rfl, rfl, rfl⟩
    have HV := Lib.hid hval
    have hq64 : q ≤ 65536 := by omega
    clear hstart hfr hval hfv' hFT hsub hown'
    have HRL : Hid (∀ X, Fr [] w X → True) := Lib.hid (fun _ _ => trivial)
    by_cases hfc1 : fc = 1
    all_goals first
      | (have hm0 : m = 0 := by omega
         subst hm0
         subst hfc1
         simp only [if_true] at hfo'
         subst hfo')
      | (rw [if_neg hfc1] at hfo'
         subst hfo')
    all_goals
      go_enter Try.func22, Try.ntmps22
      go_wp2_with fail
      go_loopw [50] (fun i wr => ∃ (j n' : Nat), i = .int .i64 j ∧ j ≤ s.words ∧ n' ≤ n + j ∧
         SlabAt wr p pm mv (.slice (some ⟨g, 0, none⟩) s.recs.length c) fv' n' { s with row := rest, recs := s.recs.set q (gg + 1, true), c := zeroed s.c (s.first + q * s.words) j } ∧ Fr FT w wr) (fun i _ => s.words - (intOf i).toNat)
      case atStart => exact ⟨0, n, rfl, Nat.zero_le _, Nat.le_refl _, HS.out _ (by rw [HFV.out]), HFR.out _⟩
      case round =>
        obtain ⟨j, n', rfl, hj, hn', hs, hf⟩ := hrel
        have c0r := cell_block hs.blk 0
        have c3r := cell_block hs.blk 3
        simp at c0r c3r
        by_cases hlt : j < s.words
        · have HSR := Lib.hid hs
          have HFF := Lib.hid hf
          have hnep := hs.ne
          have hp1 : p ∉ MemAt.foot pm mv := by simp [MemAt.foot]; exact ⟨hnep.1, hnep.2.1⟩
          have HP1 := Lib.hid hp1
          have HHAS := Lib.hid (show (MS.mk (zeroed s.c (s.first + q * s.words) j) n').has (s.first + q * s.words + j) = true from by simp [MS.has, zeroed_len]; omega)
          have HC : Hid (∀ X, Sim X wr → Calls Try.prog 35 #[.pointer (some ⟨p, 0, none⟩), .int .i64 q, .int .i64 j] X fun e w' => e = .returned (.int .i64 (s.first + q * s.words + j)) ∧ ∃ k, w' = X.drewN k) :=
            Lib.hid (fun X hX => by have h0 := SlabAt.same hs hX.heap; exact slab_cell (s := { s with row := rest, recs := s.recs.set q (gg + 1, true), c := zeroed s.c (s.first + q * s.words) j }) X p pm q j h0 (by omega) (by omega) (by omega) (by omega) (by show s.first ≤ _; omega) (by show s.words ≤ _; omega))
          have HST : Hid (∀ X, Sim X wr → Calls Try.prog 32 #[.pointer (some ⟨pm, 0, none⟩), .int .i64 (s.first + q * s.words + j), .int .u64 0] X fun e w' => e = .returned (.int .i64 0) ∧ MemAt w' pm mv ⟨zeroed s.c (s.first + q * s.words) (j + 1), n' + 1⟩ ∧ Fr (MemAt.foot pm mv) wr w') :=
            Lib.hid (fun X hX => (store_any X pm (s.first + q * s.words + j) 0 (SlabAt.same hs hX.heap).mem (by simp [zeroed_len]; omega) (by show n' ≤ _; omega)).mono fun e w' ⟨h1, h2, h3⟩ => by
              rw [MS.err_yes HHAS.out] at h1
              refine ⟨h1, ?_, hX.fr h3⟩
              rw [MS.put, HHAS.out, if_pos rfl] at h2
              simp only [zeroed]
              rw [show ((s.first : Int) + q * s.words + j).toNat = s.first + q * s.words + j by omega] at h2
              exact h2)
          clear hs hf hnep hp1
          go_wp2_with fail
          go_region_held3 (fun w' => w'.cell? ⟨p, 0, none⟩ = some (.pointer (some ⟨pm, 0, none⟩))) (go_keep) (first | (go_at_call 35; refine (HC.out _ (by exact ⟨rfl, rfl, rfl, rfl⟩)).mono ?_; rintro e w1 ⟨rfl, k2, rfl⟩) | (go_at_call 32; refine (HST.out _ (by exact ⟨rfl, rfl, rfl, rfl⟩)).mono ?_; rintro e w2 ⟨rfl, h1, h2⟩; have c0' := h2.cell c0r HP1.out; have HH1 := Lib.hid h1; have HH2 := Lib.hid h2; clear h1 h2))
          go_wp2_with fail
          go_roundw
          case rel =>
            exact ⟨j + 1, n' + 1, by go_num, by omega, by omega, HSR.out.stored HH1.out HH2.out, HFF.out.trans HH2.out (fun k hk => Or.inl (HSUB.out k hk))⟩
          case measure => simp [intOf]; omega
        · obtain rfl : j = s.words := by omega
          have hset : (s.recs.set q (gg + 1, true))[q]? = some (gg + 1, true) := by simp [hq]
          obtain ⟨r0, _⟩ := recCells_at _ _ _ _ hset
          have d0r := hs.recs.cells (g := g) rfl _ _ r0
          simp only [Addr.add_lit, Nat.zero_add] at d0r
          have HREF := Lib.hid (fun X => slab_ref q (gg + 1) X (by omega) (by omega) (by omega) (by omega))
          have hend : SlabOut w p pm mv (.slice (some ⟨g, 0, none⟩) s.recs.length c) _ (n + s.words) s.alloc wr := ⟨fv', n', by rw [HV.out.2.2]; exact hs, hn', by rw [← HFT.out]; exact hf, fun k hk => Or.inl (by rw [HOWN.out k hk]; rfl)⟩
          have HE := Lib.hid hend
          clear hs hf hset r0 hend
          go_wp2_with (go_at_call 36; refine (HREF.out _).mono ?_; rintro e w1 ⟨rfl, rfl⟩)
          go_ret2
          exact ⟨by rw [HV.out.1, HV.out.2.1]; rfl, HE.out⟩
end Go.Proofs.Ytkampbbginamhaa
