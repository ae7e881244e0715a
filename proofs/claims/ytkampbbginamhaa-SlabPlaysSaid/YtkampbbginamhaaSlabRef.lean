/- CONTRACTS OF THE DOCUMENT's ANSWERS FOR slab: what asks -/
import Derived.Test.YtkampbbginamhaaSlabRef1
import Derived.Test.YtkampbbginamhaaSlabAlloc
namespace Go.Proofs.Ytkampbbginamhaa
open Go.RowKit
set_option linter.unusedVariables false
set_option linter.unusedSimpArgs false

theorem rplace_any (r : Int) (w : World) (h : IsW r) :
    Calls Try.prog 25 #[.int .u64 r] w fun e w' => e = .returned (.int .i64 (plc r)) ∧ w = w' := by
  obtain ⟨h0, h1⟩ := h
  go_enter Try.func25, Try.ntmps25
  go_wp2
  go_ret
  exact ⟨rfl, rfl⟩
theorem rgen_any (r : Int) (w : World) (h : IsW r) :
    Calls Try.prog 26 #[.int .u64 r] w fun e w' => e = .returned (.int .i64 (gnr r)) ∧ w = w' := by
  obtain ⟨h0, h1⟩ := h
  go_enter Try.func26, Try.ntmps26
  go_wp2
  go_ret
  exact ⟨rfl, rfl⟩
theorem rref_any (p g : Int) (w : World) (h0 : 0 ≤ p) (h1 : p ≤ 65536) (g0 : 0 ≤ g) (g1 : g ≤ 1000000) :
    Calls Try.prog 39 #[.int .i64 p, .int .i64 g] w fun e w' => e = .returned (.int .u64 (mkr p g)) ∧ w = w' := by
  go_enter Try.func39, Try.ntmps39
  go_wp2
  go_ret
  exact ⟨by rw [show mkr p g = g * 4294967296 + (p + 1) by unfold mkr; omega]; rfl, rfl⟩

/-- the blocks that a value's slices lie in -/
def blks : Value → List Nat
  | .agg cs => cs.toList.flatMap fun v => v.ownBlock.toList
  | v => v.ownBlock.toList

/-- the fields of a slab of the document's answers -/
structure RefF (w : World) (mv gv tv fv : Value) (k : Int) (K : Nat) (s : SS) : Prop where
  cells : Ref w mv s.c
  gens : Lies w 3 1 gv s.recs.length (s.recs.map fun r => Value.int .i64 r.1)
  taken : Lies w 4 1 tv s.recs.length (s.recs.map fun r => Value.bool r.2)
  free : Lies w 3 1 fv s.row.length (s.row.map fun (q : Nat) => Value.int .i64 q)
  k0 : 0 ≤ k
  kK : k ≤ K
def refAgg (mv gv tv fv : Value) (k : Int) (s : SS) : Value := .agg #[mv, .int .i64 k, .int .i64 s.first, .int .i64 s.words, gv, tv, fv]
def RefS (w : World) (X : Value) (K : Nat) (s : SS) : Prop := ∃ mv gv tv fv k, X = refAgg mv gv tv fv k s ∧ RefF w mv gv tv fv k K s
theorem blks_refAgg (mv gv tv fv : Value) (k : Int) (s : SS) (j : Nat) : j ∈ blks (refAgg mv gv tv fv k s) ↔ mv.ownBlock = some j ∨ gv.ownBlock = some j ∨ tv.ownBlock = some j ∨ fv.ownBlock = some j := by
  simp [blks, refAgg, Value.ownBlock]
theorem RefF.keep {S w w' mv gv tv fv k K s} (h : RefF w mv gv tv fv k K s) (hf : Fr S w w') (hn : ∀ j ∈ blks (refAgg mv gv tv fv k s), j ∉ S) : RefF w' mv gv tv fv k K s := by
  have e : ∀ j, (mv.ownBlock = some j ∨ gv.ownBlock = some j ∨ tv.ownBlock = some j ∨ fv.ownBlock = some j) → j ∉ S := fun j hj => hn j ((blks_refAgg mv gv tv fv k s j).2 hj)
  exact ⟨h.cells.keep hf (fun j hj => e j (Or.inl hj)), h.gens.keep hf (fun j hj => e j (Or.inr (Or.inl hj))), h.taken.keep hf (fun j hj => e j (Or.inr (Or.inr (Or.inl hj)))), h.free.keep hf (fun j hj => e j (Or.inr (Or.inr (Or.inr hj)))), h.k0, h.kK⟩
theorem RefF.lt {w mv gv tv fv k K s} (h : RefF w mv gv tv fv k K s) : ∀ j ∈ blks (refAgg mv gv tv fv k s), j < w.heap.size := by
  intro j hj
  rw [blks_refAgg] at hj
  rcases hj with hj | hj | hj | hj
  · exact (h.cells.lt j hj).2
  · exact h.gens.lt j hj
  · exact h.taken.lt j hj
  · exact h.free.lt j hj
theorem RefS.keep {S w w' X K s} (h : RefS w X K s) (hf : Fr S w w') (hn : ∀ j ∈ blks X, j ∉ S) : RefS w' X K s := by
  obtain ⟨mv, gv, tv, fv, k, rfl, h⟩ := h
  exact ⟨mv, gv, tv, fv, k, rfl, h.keep hf hn⟩
theorem RefS.lt {w X K s} (h : RefS w X K s) : ∀ j ∈ blks X, j < w.heap.size := by
  obtain ⟨mv, gv, tv, fv, k, rfl, h⟩ := h
  exact h.lt
/-- slice values by name -/
theorem RefF.forms {w mv gv tv fv k K s} (h : RefF w mv gv tv fv k K s) : (∃ a c, mv = .slice a s.c.length c) ∧ (∃ a c, gv = .slice a s.recs.length c) ∧ (∃ a c, tv = .slice a s.recs.length c) ∧ ∃ a c, fv = .slice a s.row.length c := by
  obtain ⟨a, c, h1⟩ := h.cells.form
  obtain ⟨a2, c2, h2, _⟩ := h.gens.form
  obtain ⟨a3, c3, h3, _⟩ := h.taken.form
  obtain ⟨a4, c4, h4, _⟩ := h.free.form
  exact ⟨⟨a, c, h1⟩, ⟨a2, c2, h2⟩, ⟨a3, c3, h3⟩, ⟨a4, c4, h4⟩⟩

theorem rlive_any (w : World) {X : Value} {K : Nat} {s : SS} (h : RefS w X K s) (hl : s.recs.length ≤ 65536) (hr : s.row.length ≤ 65536) :
    Calls Try.prog 13 #[X] w fun e w' => e = .returned (.int .i64 ((s.recs.length : Int) - s.row.length)) ∧ Fr [] w w' := by
  obtain ⟨mv, gv, tv, fv, k, rfl, h⟩ := h
  obtain ⟨⟨ma, mc, rfl⟩, ⟨ga, gc, rfl⟩, ⟨ta, tc, rfl⟩, ⟨fa, fc, rfl⟩⟩ := h.forms
  have hx := IntWalk.i64_in ((s.recs.length : Int) - s.row.length) ⟨by omega, by omega⟩
  clear h
  unfold refAgg
  go_enter Try.func13, Try.ntmps13
  go_wp2
  go_ret
  exact ⟨rfl, (Fr.refl _ _).alloc _⟩

theorem rthere_any (w : World) (r : Int) {X : Value} {K : Nat} {s : SS} (h : RefS w X K s) (hr : IsW r) (hl : s.recs.length ≤ 65536) :
    Calls Try.prog 40 #[X, .int .u64 r] w fun e w' => e = .returned (.bool (s.has r)) ∧ Fr [] w w' := by
  have b0 := plc_bd r
  have b1 := gnr_bd hr
  have HP := Lib.hid (rplace_any r · hr)
  have HG := Lib.hid (rgen_any r · hr)
  obtain ⟨mv, gv, tv, fv, k, rfl, h⟩ := h
  obtain ⟨⟨ma, mc, rfl⟩, ⟨ga, gc, rfl⟩, ⟨ta, tc, rfl⟩, ⟨fa, fc, rfl⟩⟩ := h.forms
  obtain ⟨q, hq⟩ : ∃ q, q = plc r := ⟨_, rfl⟩
  obtain ⟨gg, hgg⟩ : ∃ gg, gg = gnr r := ⟨_, rfl⟩
  rw [← hq] at b0
  rw [← hgg] at b1
  unfold refAgg
  by_cases h1 : 0 ≤ q ∧ q < s.recs.length
  · obtain ⟨h1, h2⟩ := h1
    obtain ⟨q, rfl⟩ := Int.eq_ofNat_of_zero_le h1
    have h2' : q < s.recs.length := by omega
    obtain ⟨gg', go', gc', hv1, hg1, hgc, hgat⟩ := h.gens.here (by omega)
    obtain ⟨tg', to', tc', hv2, hg2, htc, htat⟩ := h.taken.here (by omega)
    cases hv1
    cases hv2
    obtain ⟨⟨x, t⟩, hat⟩ : ∃ x, s.recs[q]? = some x := ⟨_, List.getElem?_eq_getElem h2'⟩
    obtain ⟨d0, _⟩ := hgat q (by omega)
    obtain ⟨d1, _⟩ := htat q (by omega)
    rw [List.getElem?_map, hat] at d0 d1
    simp only [Option.map_some] at d0 d1
    have HV := Lib.hid (SS.has_in hq hat)
    have HQ := Lib.hid hq
    have HGG := Lib.hid hgg
    have t1 : decide ((q : Int) < 0) = false := by simp
    have t2 : decide ((s.recs.length : Int) ≤ q) = false := by simp; omega
    have t3 : decide (s.recs.length ≤ q) = false := by simp; omega
    have hn1 : ¬ gg' = w.heap.size := by omega
    have hn2 : ¬ tg' = w.heap.size := by omega
    clear h hr hq hgg hat hgat htat
    cases t
    · go_enter Try.func40, Try.ntmps40
      go_wp2_with (go_at_call 25; refine (HP.out _).mono ?_; rintro e w1 ⟨rfl, rfl⟩; rw [← HQ.out])
      go_quiet (fail)
      go_wp2
      go_ret
      exact ⟨by rw [HV.out]; simp, ((Fr.refl _ _).alloc _).drewN _⟩
    · by_cases he : x = gg
      all_goals first
        | (have t4 : (x == gg) = true := by simpa using he)
        | (have t4 : (x == gg) = false := by simpa using he)
      all_goals
        have HE := Lib.hid he
        clear he
        go_enter Try.func40, Try.ntmps40
        go_wp2_with (go_at_call 25; refine (HP.out _).mono ?_; rintro e w1 ⟨rfl, rfl⟩; rw [← HQ.out])
        go_quiet ((go_at_call 26; exact Calls.quiet_of_same ((HG.out _).mono fun _ _ ⟨he, hw⟩ => ⟨by rw [he, ← HGG.out], hw.symm⟩)))
        go_wp2
        go_ret
        exact ⟨by rw [HV.out, ← HGG.out]; first | (rw [decide_eq_true HE.out]; rfl) | (rw [decide_eq_false HE.out]; rfl), ((Fr.refl _ _).alloc _).drewN _⟩
  · have HV := Lib.hid (SS.has_out (s := s) (r := r) (by rw [← hq]; exact h1))
    have HQ := Lib.hid hq
    clear h hr hq hgg
    by_cases h0 : 0 ≤ q
    all_goals first
      | have t1 : decide (q < 0) = false := by simp; omega
        have t2 : decide ((s.recs.length : Int) ≤ q) = true := by simp; omega
      | have t1 : decide (q < 0) = true := by simp; omega
    all_goals
      go_enter Try.func40, Try.ntmps40
      go_wp2_with (go_at_call 25; refine (HP.out _).mono ?_; rintro e w1 ⟨rfl, rfl⟩; rw [← HQ.out])
      go_ret
      exact ⟨by rw [HV.out]; rfl, (Fr.refl _ _).alloc _⟩

theorem rcell_any (w : World) (r i : Int) {X : Value} {K : Nat} {s : SS} {G : Int} (h : RefS w X K s) (hr : IsW r) (ho : s.Ok G) :
    Calls Try.prog 30 #[X, .int .u64 r, .int .i64 i] w fun e w' => e = .returned (.tuple #[.int .i64 (s.cellV r i), .int .i64 (s.cellE r i)]) ∧ Fr [] w w' := by
  have hn := ho.nrec
  have hbig := ho.big
  have hfit := ho.fit
  have HX := Lib.hid h
  have HP := Lib.hid (rplace_any r · hr)
  have HH : Hid (∀ W, Fr [] w W → Calls Try.prog 40 #[X, .int .u64 r] W fun e w' => e = .returned (.bool (s.has r)) ∧ Fr [] W w') := Lib.hid (fun W hW => rthere_any W r (h.keep hW (by simp)) hr (by omega))
  obtain ⟨mv, gv, tv, fv, k, rfl, h⟩ := h
  obtain ⟨⟨ma, mc, rfl⟩, ⟨ga, gc, rfl⟩, ⟨ta, tc, rfl⟩, ⟨fa, fc, rfl⟩⟩ := h.forms
  clear h
  unfold refAgg at HH ⊢
  by_cases hh : s.has r = true
  · obtain ⟨q, hq, hql, _⟩ := SS.has_place hh
    have HQ := Lib.hid hq
    have HS := Lib.hid hh
    clear hq hh
    have hq1 : (q + 1) * s.words ≤ s.recs.length * s.words := Nat.mul_le_mul_right _ hql
    rw [Nat.add_mul, Nat.one_mul] at hq1
    by_cases hi : 0 ≤ i ∧ i < s.words
    · have HI := Lib.hid hi
      obtain ⟨i0, i1⟩ := hi
      have t1 : decide (i < 0) = false := by simp; omega
      have t2 : decide ((s.words : Int) ≤ i) = false := by simp; omega
      have hm : (q : Int) * s.words = ((q * s.words : Nat) : Int) := by simp
      have hx := IntWalk.i64_in ((q : Int) * s.words) ⟨by rw [hm]; omega, by rw [hm]; omega⟩
      have hx2 := IntWalk.i64_in ((s.first : Int) + q * s.words) ⟨by rw [hm]; omega, by rw [hm]; omega⟩
      have hx3 := IntWalk.i64_in ((s.first : Int) + q * s.words + i) ⟨by rw [hm]; omega, by rw [hm]; omega⟩
      clear hm
      go_enter Try.func30, Try.ntmps30
      go_wp2_with (go_at_call 40; refine (HH.out _ (by exact (Fr.refl [] w).alloc _)).mono ?_; rintro e w1 ⟨rfl, hf⟩; rw [HS.out]; refine go_stop ?_)
      have hb := hf.keep (new_block w _) (by simp)
      have c2 := cell_block hb 2
      have c3 := cell_block hb 3
      simp at c2 c3
      have HF := Lib.hid (((Fr.refl [] w).alloc _).trans hf (by simp))
      clear hf hb
      unfold Stop
      go_wp2_with fail
      go_quiet ((go_at_call 25; exact Calls.quiet_of_same ((HP.out _).mono fun _ _ ⟨he, hw⟩ => ⟨by rw [he, ← HQ.out], hw.symm⟩)))
      go_wp2
      go_ret2
      refine ⟨?_, HF.out.drewN _⟩
      rw [SS.cellE, SS.cellV, HS.out, if_pos rfl, if_pos rfl, if_pos HI.out, if_pos HI.out, ← HQ.out]
      rfl
    · have HI := Lib.hid hi
      by_cases i0 : i < 0
      all_goals first
        | have t1 : decide (i < 0) = true := by simpa using i0
        | have t1 : decide (i < 0) = false := by simpa using i0
          have t2 : decide ((s.words : Int) ≤ i) = true := by simp; omega
      all_goals
        go_enter Try.func30, Try.ntmps30
        go_wp2_with (go_at_call 40; refine (HH.out _ (by exact (Fr.refl [] w).alloc _)).mono ?_; rintro e w1 ⟨rfl, hf⟩; rw [HS.out]; refine go_stop ?_)
        have hb := hf.keep (new_block w _) (by simp)
        have c3 := cell_block hb 3
        simp at c3
        have HF := Lib.hid (((Fr.refl [] w).alloc _).trans hf (by simp))
        clear hf hb
        unfold Stop
        go_wp2
        go_ret2
        refine ⟨?_, HF.out⟩
        rw [SS.cellE, SS.cellV, HS.out, if_pos rfl, if_pos rfl, if_neg HI.out, if_neg HI.out]
        rfl
  · have hh : s.has r = false := by simpa using hh
    have HS := Lib.hid hh
    clear hh
    go_enter Try.func30, Try.ntmps30
    go_wp2_with (go_at_call 40; refine (HH.out _ (by exact (Fr.refl [] w).alloc _)).mono ?_; rintro e w1 ⟨rfl, hf⟩; rw [HS.out]; have HF := Lib.hid (((Fr.refl [] w).alloc _).trans hf (by simp)); clear hf)
    go_ret2
    refine ⟨?_, HF.out⟩
    rw [SS.cellE, SS.cellV, HS.out]
    rfl
end Go.Proofs.Ytkampbbginamhaa
