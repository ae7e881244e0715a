/- Whatever is taken, freed, asked, and stored, of any slab of 500 cells: each answer, and at last all cells, are the document's: for every two ints and every list of deeds. No condition. -/
import Derived.Test.YtkampbbginamhaaSlabPlays0
namespace Go.Proofs.Ytkampbbginamhaa.lawSlabPlays
open Go.ChangeShapes Go.WideShapes Go.ChangeAt Go.RowKit Go.Deep
set_option linter.unusedVariables false
set_option linter.unusedSimpArgs false

set_option maxRecDepth 100000 in
set_option maxHeartbeats 6000000 in
theorem play (W0 M : Nat) (a0 : Option Addr) (len0 cap0 : Nat) (w : World) (w0 : SDeeds w a0 len0 cap0) (h1 : 1 ≤ W0) (h2 : 1 ≤ M) (h3 : W0 * M ≤ 500) :
    Calls Try.prog 3 #[.int .i64 W0, .int .i64 M, .slice a0 len0 cap0] w fun e w' => e = .returned (.bool true) ∧ Below w.heap.size w w' := by
  have HD := Lib.hid w0
  have hm : len0 ≤ 9223372036854775807 := by have := w0.1; have := w0.2.1; unfold maxLen at this; omega
  have hW500 : W0 ≤ 500 := by have := Nat.mul_le_mul_left W0 h2; omega
  have hM500 : M ≤ 500 := by have := Nat.mul_le_mul_right M h1; omega
  have t1 : decide ((500 : Int) < W0) = false := by simp; omega
  have t2 : decide ((500 : Int) < M) = false := by simp; omega
  have t3 : decide ((0 : Int) < W0) = true := by simp; omega
  have t4 : decide (500 / (W0 : Int) < M) = false := by
    rw [decide_eq_false_iff_not, Int.not_lt, Int.le_ediv_iff_mul_le (by omega), Int.mul_comm]
    have : ((W0 * M : Nat) : Int) = (W0 : Int) * M := by simp
    omega
  have hp0 : (0 : Int) < W0 := by omega
  obtain ⟨s0, hs0⟩ : ∃ s0, SS.new ⟨[0, 0, 0], 0⟩ W0 M = s0 := ⟨_, rfl⟩
  have HBY := Lib.hid (fun w => begun_yes w W0 M s0 hs0 h1 h2 (by omega))
  have HI0 := Lib.hid (show Inv M s0 [] 0 by rw [← hs0]; exact Inv.new W0 M h1 (by omega))
  have HW0 := Lib.hid (show s0.words = W0 by rw [← hs0]; rfl)
  clear w0 hs0
  go_enter Try.func3, Try.ntmps3
  go_wp2_with (first | (go_at_call 9; refine (slab_awake _).mono ?_; rintro e w1 ⟨rfl, h1⟩; have HA := Lib.hid h1; clear h1) | (go_at_call 10; refine (HBY.out _).mono ?_; rintro e w2 ⟨V, FT, rfl, hb, hf, hn⟩; refine go_stop ?_))
  obtain ⟨p, pm, mv, rv, mx, k, gx, tx, fx, lv, rfl, _, _, _, _, ⟨ma, mn, mc, rfl⟩, ⟨ga, gn, gc, rfl⟩, ⟨ta, tn, tc, rfl⟩, ⟨fa, fn, fc, rfl⟩, la, lc, hlv⟩ := hb.own
  replace hlv : lv = .slice la 0 lc := hlv
  subst hlv
  obtain ⟨X, hX⟩ : ∃ X, X = w2.heap.size := ⟨_, rfl⟩
  have hf2 := HA.out.trans hf (by simp)
  have hsz1 : w.heap.size ≤ w2.heap.size := hf2.size
  have hsz2 : w.heap.size ≤ w1.heap.size := HA.out.size
  have hrel : PlayRel w X M W0 0 #[.pointer (some ⟨p, 0, none⟩), .pointer (some ⟨pm, 0, none⟩), .slice ma mn mc, .int .i64 k, .int .i64 s0.first, .int .i64 s0.words, .slice ga gn gc, .slice ta tn tc, .slice fa fn fc, .slice la 0 lc] FT s0 []
      (w2.alloc (.cells #[.pointer (some ⟨p, 0, none⟩), .pointer (some ⟨pm, 0, none⟩), .slice ma mn mc, .int .i64 k, .int .i64 s0.first, .int .i64 s0.words, .slice ga gn gc, .slice ta tn tc, .slice fa fn fc, .slice la 0 lc] 34)) := by
    refine ⟨hf2.alloc _, by rw [hX]; exact new_block _ _, by omega, (hb.keep ((Fr.refl [] w2).alloc _) (by simp)).mono (by omega) (by omega), HI0.out, HW0.out, fun j hj => by have := hn j hj; omega⟩
  have HREL := Lib.hid hrel
  clear hb hf hn hrel hf2
  unfold Stop
  go_wp2_with fail
  rw [← hX]
  clear hX t1 t2 t3 t4
  go_loopw [10] (fun i wr => ∃ (j : Nat) (vc : Array Value) (FT : List Nat) (s : SS) (L : List Int), i = .int .i64 j ∧ j ≤ len0 ∧ j ≤ 60 ∧ PlayRel w X M W0 j vc FT s L wr) (fun i _ => 60 - (intOf i).toNat)
  case atStart => exact ⟨0, _, _, _, _, rfl, Nat.zero_le _, Nat.zero_le _, HREL.out⟩
  case round =>
    obtain ⟨j, vc, FT, s, L, rfl, hj, hj60, hrel⟩ := hrel
    obtain ⟨p, pm, mv, rv, mx, k, gx, tx, fx, lv, hvc, _, _, _, _, ⟨ma, mn, mc, rfl⟩, ⟨ga, gn, gc, rfl⟩, ⟨ta, tn, tc, rfl⟩, ⟨fa, fn, fc, rfl⟩, la, lc, rfl⟩ := hrel.both.own
    simp only [Value.agg.injEq] at hvc
    subst hvc
    obtain ⟨x0, x1, x2, x3, x4, x5, x6, x7, x8, x9, fx⟩ := cells10 hrel.x
    have hXlt : X < wr.heap.size := lt_of_block hrel.x
    have hxr := hrel.xr
    by_cases hgo : j < len0 ∧ j < 60
    · obtain ⟨hlt, hlt60⟩ := hgo
      have ht1 : decide (j < len0) = true := by simpa using hlt
      have ht2 : decide ((j : Int) < 60) = true := by simp; omega
      obtain ⟨b, off, rfl, hbw, _⟩ := HD.out.2.2 (by omega)
      have hd' := HD.out.keep hrel.fr
      obtain ⟨b', off', hbe, hbw', hcells⟩ := hd'.2.2 (by omega)
      simp only [Option.some.injEq, Addr.mk.injEq, and_true] at hbe
      obtain ⟨rfl, rfl⟩ := hbe
      obtain ⟨kind, x, n, v, raw, n0, n1, hw, c0, c1, c2, c3, c4⟩ := hcells j hlt
      have HDO : Hid (∀ W, Fr [] wr W → Calls Try.prog 11 #[.agg #[.pointer (some ⟨p, 0, none⟩), .pointer (some ⟨pm, 0, none⟩), .slice ma mn mc, .int .i64 k, .int .i64 s.first, .int .i64 s.words, .slice ga gn gc, .slice ta tn tc, .slice fa fn fc, .slice la L.length lc], .agg #[.int .i64 kind, .int .i64 x, .int .u8 n, .int .u64 v, .int .u64 raw]] W (DoOut W FT (W0 * (j + 1)) (W0 * (j + 1)) (s.deedS L kind x n v raw) (s.deedL L kind))) :=
        Lib.hid (fun W hW => by
          have hi := hrel.inv
          have hwd := hrel.words
          have hrw := hi.row
          have hln := hi.len
          have hNj : W0 * j ≤ 500 * 60 := Nat.mul_le_mul hW500 hj60
          have hNs : W0 * (j + 1) = W0 * j + W0 := Nat.mul_succ _ _
          exact (do_any W kind x n v raw (hrel.both.keep hW (by simp)) hi.ok (by omega) (by omega) (by omega) (by omega) (by omega) n0 n1 hw hi.word).mono fun e w' h => h.mono (by omega) (by omega))
      have hXF : X ∉ FT := (hrel.both.far hrel.x).1
      have hbF : b ∉ FT := fun h => by have := hrel.ft b h; omega
      have HCF := Lib.hid (fun h => by have := hrel.both.ft_lt _ h; omega : wr.heap.size ∉ FT)
      have HREL := Lib.hid hrel
      have HXF := Lib.hid hXF
      have HBF := Lib.hid hbF
      have q1 : ¬ X = b := by omega
      have q2 : ¬ wr.heap.size = X := by omega
      have q3 : ¬ wr.heap.size = b := by omega
      clear hrel hcells hd' hXF hbF
      go_wp2_with fail
      go_region_held3 (fun w' => w'.cell? ⟨X, 0, none⟩ = some (.pointer (some ⟨p, 0, none⟩)) ∧ w'.cell? ⟨X, 1, none⟩ = some (.pointer (some ⟨pm, 0, none⟩)) ∧ w'.cell? ⟨X, 2, none⟩ = some (.slice ma mn mc) ∧ w'.cell? ⟨X, 3, none⟩ = some (.int .i64 k) ∧ w'.cell? ⟨X, 4, none⟩ = some (.int .i64 s.first) ∧ w'.cell? ⟨X, 5, none⟩ = some (.int .i64 s.words) ∧ w'.cell? ⟨X, 6, none⟩ = some (.slice ga gn gc) ∧ w'.cell? ⟨X, 7, none⟩ = some (.slice ta tn tc) ∧ w'.cell? ⟨X, 8, none⟩ = some (.slice fa fn fc) ∧ w'.cell? ⟨X, 9, none⟩ = some (.slice la L.length lc) ∧ w'.cell? ⟨b, off + j * 5, none⟩ = some (.int .i64 kind) ∧ w'.cell? ⟨b, off + j * 5 + 1, none⟩ = some (.int .i64 x) ∧ w'.cell? ⟨b, off + j * 5 + 2, none⟩ = some (.int .u8 n) ∧ w'.cell? ⟨b, off + j * 5 + 3, none⟩ = some (.int .u64 v) ∧ w'.cell? ⟨b, off + j * 5 + 4, none⟩ = some (.int .u64 raw)) (go_keep)
        (first | (go_at_call 11; refine (HDO.out _ ?_).mono ?_; · first | exact (Fr.refl _ _).drew | exact ((Fr.refl _ _).alloc _).drew
                  rintro e w4 ⟨V', FT', rfl, hb', hf', hn'⟩
                  have hf2 : Fr FT wr w4 := by first | exact ((Fr.refl _ _).drew).trans hf' (fun _ h => Or.inl h) | exact (((Fr.refl _ _).alloc _).drew).trans hf' (fun _ h => Or.inl h)
                  try (have hc4 := hf'.keep (p := wr.heap.size) (o := .cells nilBoth 34) (by exact new_block wr _) HCF.out; have hc4' := hc4; unfold nilBoth at hc4'; obtain ⟨z0, z1, z2, z3, z4, z5, z6, z7, z8, z9, fz⟩ := cells10 hc4'; have HC4 := Lib.hid hc4; clear hc4 hc4')
                  have hw4 : wr.heap.size ≤ w4.heap.size := hf2.size
                  have hx4 := hf2.keep HREL.out.x HXF.out
                  have c0' := hf2.cell c0 HBF.out
                  have c1' := hf2.cell c1 HBF.out
                  have c2' := hf2.cell c2 HBF.out
                  have c3' := hf2.cell c3 HBF.out
                  have c4' := hf2.cell c4 HBF.out
                  have hn2 : ∀ k ∈ FT', w.heap.size ≤ k := fun k hk => (hn' k hk).elim (HREL.out.ft k) (fun h => by have := HREL.out.fr.size; first | omega | (simp at h; omega))
                  obtain ⟨p', pm', mv', rv', mx', k', gx', tx', fx', lv', rfl, _, _, _, _, ⟨ma', mn', mc', rfl⟩, ⟨ga', gn', gc', rfl⟩, ⟨ta', tn', tc', rfl⟩, ⟨fa', fn', fc', rfl⟩, la', lc', rfl⟩ := hb'.own
                  obtain ⟨y0, y1, y2, y3, y4, y5, y6, y7, y8, y9, fy⟩ := cells10 hx4
                  have hX4 := lt_of_block hx4
                  have q4 : ¬ w4.heap.size = X := by omega
                  have q5 : ¬ w4.heap.size = b := by omega
                  have HX4 := Lib.hid hx4
                  have HB4 := Lib.hid hb'
                  have HF2 := Lib.hid hf2
                  have HN2 := Lib.hid hn2
                  clear hx4 hb' hf' hn' hf2 hn2))
      all_goals go_wp2
      · refine at_world (PlayRel w X M W0 (j + 1) #[.pointer (some ⟨p', 0, none⟩), .pointer (some ⟨pm', 0, none⟩), .slice ma' mn' mc', .int .i64 k', .int .i64 (s.deedS L kind x n v raw).first, .int .i64 (s.deedS L kind x n v raw).words, .slice ga' gn' gc', .slice ta' tn' tc', .slice fa' fn' fc', .slice la' (s.deedL L kind).length lc'] FT' (s.deedS L kind x n v raw) (s.deedL L kind)) (PlayRel.step (S := [X]) HREL.out HF2.out HX4.out HB4.out HN2.out ?_ ?_ (by intro k hk; simp at hk; exact Or.inl hk) hj60 (by omega)) ?_
        · repeat (first | (with_reducible exact Fr.refl _ _) | (with_reducible refine Fr.alloc ?_ _) | (with_reducible refine Fr.drew ?_) | (with_reducible refine Fr.setCell ?_ (Or.inl (by simp)) _))
        · rw [Below.heap_alloc _ _ _ (by simp; exact hX4)]
          simpa using (set_block (set_block (set_block (set_block (set_block (set_block (set_block (set_block (set_block (set_block HX4.out 0 _) 1 _) 2 _) 3 _) 4 _) 5 _) 6 _) 7 _) 8 _) 9 _)
        intro wB hB
        obtain ⟨⟨mv2, rv2, hO2⟩, hR2, -, -, -, -⟩ := hB.both.parts
        have hx := hB.x
        clear x0 x1 x2 x3 x4 x5 x6 x7 x8 x9 fx y0 y1 y2 y3 y4 y5 y6 y7 y8 y9 fy
        obtain ⟨x0, x1, x2, x3, x4, x5, x6, x7, x8, x9, fx⟩ := cells10 hx
        obtain ⟨Z, hZ⟩ : ∃ Z : Int, Z = ((s.deedS L kind x n v raw).recs.length : Int) - (s.deedS L kind x n v raw).row.length := ⟨_, rfl⟩
        have hnr := hB.inv.nrec
        have hrw := hB.inv.row
        have HLV := Lib.hid (fun W (hW : Fr [] wB W) => own_live (hO2.keep hW (by simp)) (by omega) (by omega))
        have HRL : Hid (∀ W, Fr [] wB W → Calls Try.prog 13 #[.agg #[.slice ma' mn' mc', .int .i64 k', .int .i64 (s.deedS L kind x n v raw).first, .int .i64 (s.deedS L kind x n v raw).words, .slice ga' gn' gc', .slice ta' tn' tc', .slice fa' fn' fc']] W fun e w' => e = .returned (.int .i64 Z) ∧ Fr [] W w') :=
          Lib.hid (fun W hW => by
            obtain ⟨mv3, gv3, tv3, fv3, k3, e3, hr3⟩ := hR2
            rw [hZ]
            exact rlive_any W ⟨mv3, gv3, tv3, fv3, k3, e3, hr3.keep hW (by simp)⟩ (by omega) (by omega))
        rw [← hZ] at HLV
        have hz : (Z == Z) = true := by simp
        have HB := Lib.hid hB
        clear hB hO2 hR2 hx hZ hnr hrw
        go_region_held3 (fun w' => w'.cell? ⟨X, 0, none⟩ = some (.pointer (some ⟨p', 0, none⟩)) ∧ w'.cell? ⟨X, 2, none⟩ = some (.slice ma' mn' mc') ∧ w'.cell? ⟨X, 3, none⟩ = some (.int .i64 k') ∧ w'.cell? ⟨X, 4, none⟩ = some (.int .i64 (s.deedS L kind x n v raw).first) ∧ w'.cell? ⟨X, 5, none⟩ = some (.int .i64 (s.deedS L kind x n v raw).words) ∧ w'.cell? ⟨X, 6, none⟩ = some (.slice ga' gn' gc') ∧ w'.cell? ⟨X, 7, none⟩ = some (.slice ta' tn' tc') ∧ w'.cell? ⟨X, 8, none⟩ = some (.slice fa' fn' fc')) (go_keep)
          (first | (go_at_call 12; refine (HLV.out _ (by exact (Fr.refl _ _).drew)).mono ?_; rintro e w5 ⟨rfl, k5, rfl⟩) | (go_at_call 13; refine (HRL.out _ (by exact (Fr.refl [] wB).drewN _)).mono ?_; rintro e w6 ⟨rfl, h6⟩; have H6 := Lib.hid (Fr.trans (by exact (Fr.refl [] wB).drewN _) h6 (by simp)); obtain ⟨z0, z1, z2, z3, z4, z5, z6, z7, z8, z9, fz⟩ := cells10 (H6.out.keep HB.out.x (by simp)); clear h6))
        all_goals go_wp2
        all_goals go_roundw
        case rel => exact ⟨j + 1, #[.pointer (some ⟨p', 0, none⟩), .pointer (some ⟨pm', 0, none⟩), .slice ma' mn' mc', .int .i64 k', .int .i64 (s.deedS L kind x n v raw).first, .int .i64 (s.deedS L kind x n v raw).words, .slice ga' gn' gc', .slice ta' tn' tc', .slice fa' fn' fc', .slice la' (s.deedL L kind).length lc'], FT', s.deedS L kind x n v raw, s.deedL L kind, by go_num, by omega, by omega, HB.out.keep H6.out⟩
        case measure => simp [intOf]; omega
      · refine at_world (PlayRel w X M W0 (j + 1) #[.pointer (some ⟨p', 0, none⟩), .pointer (some ⟨pm', 0, none⟩), .slice ma' mn' mc', .int .i64 k', .int .i64 (s.deedS L kind x n v raw).first, .int .i64 (s.deedS L kind x n v raw).words, .slice ga' gn' gc', .slice ta' tn' tc', .slice fa' fn' fc', .slice la' (s.deedL L kind).length lc'] FT' (s.deedS L kind x n v raw) (s.deedL L kind)) (PlayRel.step (S := [X, wr.heap.size]) HREL.out HF2.out HX4.out HB4.out HN2.out ?_ ?_ (by intro k hk; simp at hk; rcases hk with hk | hk; exact Or.inl hk; exact Or.inr ⟨hk, _, _, by rw [hk]; exact HC4.out⟩) hj60 (by omega)) ?_
        · repeat (first | (with_reducible exact Fr.refl _ _) | (with_reducible refine Fr.alloc ?_ _) | (with_reducible refine Fr.drew ?_) | (with_reducible refine Fr.setCell ?_ (Or.inl (by simp)) _))
        · have hne : X ≠ wr.heap.size := fun h => q2 h.symm
          simpa using (set_block (set_block (set_block (set_block (set_block (set_block (set_block (set_block (set_block (set_block (set_other (set_other (set_other (set_other (set_other (set_other (set_other (set_other (set_other (set_other HX4.out hne 0 _) hne 1 _) hne 2 _) hne 3 _) hne 4 _) hne 5 _) hne 6 _) hne 7 _) hne 8 _) hne 9 _) 0 _) 1 _) 2 _) 3 _) 4 _) 5 _) 6 _) 7 _) 8 _) 9 _)
        intro wB hB
        obtain ⟨⟨mv2, rv2, hO2⟩, hR2, -, -, -, -⟩ := hB.both.parts
        have hx := hB.x
        clear x0 x1 x2 x3 x4 x5 x6 x7 x8 x9 fx y0 y1 y2 y3 y4 y5 y6 y7 y8 y9 fy
        obtain ⟨x0, x1, x2, x3, x4, x5, x6, x7, x8, x9, fx⟩ := cells10 hx
        obtain ⟨Z, hZ⟩ : ∃ Z : Int, Z = ((s.deedS L kind x n v raw).recs.length : Int) - (s.deedS L kind x n v raw).row.length := ⟨_, rfl⟩
        have hnr := hB.inv.nrec
        have hrw := hB.inv.row
        have HLV := Lib.hid (fun W (hW : Fr [] wB W) => own_live (hO2.keep hW (by simp)) (by omega) (by omega))
        have HRL : Hid (∀ W, Fr [] wB W → Calls Try.prog 13 #[.agg #[.slice ma' mn' mc', .int .i64 k', .int .i64 (s.deedS L kind x n v raw).first, .int .i64 (s.deedS L kind x n v raw).words, .slice ga' gn' gc', .slice ta' tn' tc', .slice fa' fn' fc']] W fun e w' => e = .returned (.int .i64 Z) ∧ Fr [] W w') :=
          Lib.hid (fun W hW => by
            obtain ⟨mv3, gv3, tv3, fv3, k3, e3, hr3⟩ := hR2
            rw [hZ]
            exact rlive_any W ⟨mv3, gv3, tv3, fv3, k3, e3, hr3.keep hW (by simp)⟩ (by omega) (by omega))
        rw [← hZ] at HLV
        have hz : (Z == Z) = true := by simp
        have HB := Lib.hid hB
        clear hB hO2 hR2 hx hZ hnr hrw
        go_region_held3 (fun w' => w'.cell? ⟨X, 0, none⟩ = some (.pointer (some ⟨p', 0, none⟩)) ∧ w'.cell? ⟨X, 2, none⟩ = some (.slice ma' mn' mc') ∧ w'.cell? ⟨X, 3, none⟩ = some (.int .i64 k') ∧ w'.cell? ⟨X, 4, none⟩ = some (.int .i64 (s.deedS L kind x n v raw).first) ∧ w'.cell? ⟨X, 5, none⟩ = some (.int .i64 (s.deedS L kind x n v raw).words) ∧ w'.cell? ⟨X, 6, none⟩ = some (.slice ga' gn' gc') ∧ w'.cell? ⟨X, 7, none⟩ = some (.slice ta' tn' tc') ∧ w'.cell? ⟨X, 8, none⟩ = some (.slice fa' fn' fc')) (go_keep)
          (first | (go_at_call 12; refine (HLV.out _ (by exact (Fr.refl _ _).drew)).mono ?_; rintro e w5 ⟨rfl, k5, rfl⟩) | (go_at_call 13; refine (HRL.out _ (by exact (Fr.refl [] wB).drewN _)).mono ?_; rintro e w6 ⟨rfl, h6⟩; have H6 := Lib.hid (Fr.trans (by exact (Fr.refl [] wB).drewN _) h6 (by simp)); obtain ⟨z0, z1, z2, z3, z4, z5, z6, z7, z8, z9, fz⟩ := cells10 (H6.out.keep HB.out.x (by simp)); clear h6))
        all_goals go_wp2
        all_goals go_roundw
        case rel => exact ⟨j + 1, #[.pointer (some ⟨p', 0, none⟩), .pointer (some ⟨pm', 0, none⟩), .slice ma' mn' mc', .int .i64 k', .int .i64 (s.deedS L kind x n v raw).first, .int .i64 (s.deedS L kind x n v raw).words, .slice ga' gn' gc', .slice ta' tn' tc', .slice fa' fn' fc', .slice la' (s.deedL L kind).length lc'], FT', s.deedS L kind x n v raw, s.deedL L kind, by go_num, by omega, by omega, HB.out.keep H6.out⟩
        case measure => simp [intOf]; omega
    · obtain ⟨⟨mv2, rv2, hO⟩, _, hLc, hmn, hbF, _⟩ := hrel.both.parts
      subst hmn
      have hNj : W0 * j ≤ 500 * 60 := Nat.mul_le_mul hW500 hj60
      have HO := Lib.hid (hO.mono (show W0 * j ≤ 30000 + 0 by omega))
      have HXF := Lib.hid (hrel.both.far hrel.x).1
      have HXB := Lib.hid hrel.x
      have HLC := Lib.hid hLc
      have HBF := Lib.hid hbF
      have HCL := Lib.hid hrel.inv.ok.big
      have HFW := Lib.hid hrel.fr
      have HFT := Lib.hid hrel.ft
      have hcl := hrel.inv.ok.big
      clear hrel hO hLc hbF
      by_cases hlt : j < len0
      · have ht1 : decide (j < len0) = true := by simpa using hlt
        have ht2 : decide ((j : Int) < 60) = false := by simp; omega
        go_wp2_with fail
        go_loopw [13] (fun i wq => ∃ (i' : Nat), i = .int .i64 i' ∧ i' ≤ s.c.length ∧ Own wr FT wq p pm mv2 rv2 (30000 + i') s) (fun i _ => s.c.length - (intOf i).toNat)
        case atStart => exact ⟨0, rfl, Nat.zero_le _, HO.out⟩
        case round =>
          obtain ⟨i, rfl, hi, hO⟩ := hrel
          have hX := hO.fr.keep HXB.out HXF.out
          obtain ⟨x0, x1, x2, x3, x4, x5, x6, x7, x8, x9, fx⟩ := cells10 hX
          by_cases hlt3 : i < s.c.length
          · have ht3 : decide ((i : Int) < s.c.length) = true := by simpa using hlt3
            obtain ⟨y, hy⟩ : ∃ y, s.c[i]? = some y := ⟨_, List.getElem?_eq_getElem hlt3⟩
            have hld := own_load hO i (by omega) (by omega) HCL.out (by have := HCL.out; omega)
            rw [Int.toNat_natCast, List.getD_eq_getElem?_getD, hy] at hld
            obtain ⟨b, o, c, hv, _, _, _⟩ := (HLC.out.keep hO.fr HBF.out).here (by omega)
            cases hv
            have hz1 : (y == y) = true := by simp
            have HLD := Lib.hid hld
            have HY := Lib.hid hy
            clear hld hX hO hy
            go_wp2_with (go_at_call 14; refine HLD.out.mono ?_; rintro e w5 ⟨rfl, h5⟩; obtain ⟨z0, z1, z2, z3, z4, z5, z6, z7, z8, z9, fz⟩ := cells10 (h5.fr.keep HXB.out HXF.out); obtain ⟨b', o', c', hv', _, _, hat⟩ := (HLC.out.keep h5.fr HBF.out).here (by omega); cases hv'; have hcell : w5.cell? ⟨b, o + i, none⟩ = some (.int .u64 y) := (by rw [(hat i (by omega)).1, List.getElem?_map, HY.out]; rfl); have hcf := (hat i (by omega)).2; have HO5 := Lib.hid h5; clear h5 hat)
            go_roundw
            case rel => exact ⟨i + 1, by go_num, by omega, HO5.out.mono (by omega)⟩
            case measure => simp [intOf]; omega
          · have ht3 : decide ((i : Int) < s.c.length) = false := by simpa using hlt3
            have HLN := Lib.hid (own_len hO)
            have HFE := Lib.hid (HFW.out.trans hO.fr (fun k hk => Or.inr (HFT.out k hk)))
            have hz1 : ((s.c.length : Int) == (s.c.length : Int)) = true := by simp
            clear hX hO
            go_wp2_with fail
            go_quiet ((go_at_call 15; exact quiet_same (HLN.out _ ((Fr.refl _ _).drewN _))))
            go_wp2
            go_ret
            exact ⟨rfl, (HFE.out.drewN _).below (Nat.le_refl _) (by simp)⟩
      · have ht1 : decide (j < len0) = false := by simpa using hlt
        go_wp2_with fail
        go_loopw [13] (fun i wq => ∃ (i' : Nat), i = .int .i64 i' ∧ i' ≤ s.c.length ∧ Own wr FT wq p pm mv2 rv2 (30000 + i') s) (fun i _ => s.c.length - (intOf i).toNat)
        case atStart => exact ⟨0, rfl, Nat.zero_le _, HO.out⟩
        case round =>
          obtain ⟨i, rfl, hi, hO⟩ := hrel
          have hX := hO.fr.keep HXB.out HXF.out
          obtain ⟨x0, x1, x2, x3, x4, x5, x6, x7, x8, x9, fx⟩ := cells10 hX
          by_cases hlt3 : i < s.c.length
          · have ht3 : decide ((i : Int) < s.c.length) = true := by simpa using hlt3
            obtain ⟨y, hy⟩ : ∃ y, s.c[i]? = some y := ⟨_, List.getElem?_eq_getElem hlt3⟩
            have hld := own_load hO i (by omega) (by omega) HCL.out (by have := HCL.out; omega)
            rw [Int.toNat_natCast, List.getD_eq_getElem?_getD, hy] at hld
            obtain ⟨b, o, c, hv, _, _, _⟩ := (HLC.out.keep hO.fr HBF.out).here (by omega)
            cases hv
            have hz1 : (y == y) = true := by simp
            have HLD := Lib.hid hld
            have HY := Lib.hid hy
            clear hld hX hO hy
            go_wp2_with (go_at_call 14; refine HLD.out.mono ?_; rintro e w5 ⟨rfl, h5⟩; obtain ⟨z0, z1, z2, z3, z4, z5, z6, z7, z8, z9, fz⟩ := cells10 (h5.fr.keep HXB.out HXF.out); obtain ⟨b', o', c', hv', _, _, hat⟩ := (HLC.out.keep h5.fr HBF.out).here (by omega); cases hv'; have hcell : w5.cell? ⟨b, o + i, none⟩ = some (.int .u64 y) := (by rw [(hat i (by omega)).1, List.getElem?_map, HY.out]; rfl); have hcf := (hat i (by omega)).2; have HO5 := Lib.hid h5; clear h5 hat)
            go_roundw
            case rel => exact ⟨i + 1, by go_num, by omega, HO5.out.mono (by omega)⟩
            case measure => simp [intOf]; omega
          · have ht3 : decide ((i : Int) < s.c.length) = false := by simpa using hlt3
            have HLN := Lib.hid (own_len hO)
            have HFE := Lib.hid (HFW.out.trans hO.fr (fun k hk => Or.inr (HFT.out k hk)))
            have hz1 : ((s.c.length : Int) == (s.c.length : Int)) = true := by simp
            clear hX hO
            go_wp2_with fail
            go_quiet ((go_at_call 15; exact quiet_same (HLN.out _ ((Fr.refl _ _).drewN _))))
            go_wp2
            go_ret
            exact ⟨rfl, (HFE.out.drewN _).below (Nat.le_refl _) (by simp)⟩

set_option maxRecDepth 100000 in
set_option maxHeartbeats 2000000 in
theorem walk (ws mo : Int) (a0 : Option Addr) (len0 cap0 : Nat) (w : World) (wws : (Lit.int .i64 ws).wf = true) (wmo : (Lit.int .i64 mo).wf = true) (w0 : SDeeds w a0 len0 cap0) :
    Calls Try.prog 3 #[.int .i64 ws, .int .i64 mo, .slice a0 len0 cap0] w fun e w' => e = .returned (.bool true) ∧ Below w.heap.size w w' := by
  by_cases h1 : 500 < ws
  · have t1 : decide (500 < ws) = true := by simpa using h1
    go_enter Try.func3, Try.ntmps3
    go_wp2_with (go_at_call 9; refine (slab_awake _).mono ?_; rintro e w1 ⟨rfl, h1⟩; have HA := Lib.hid h1; clear h1)
    go_ret
    exact ⟨rfl, HA.out.below (Nat.le_refl _) (by simp)⟩
  have t1 : decide (500 < ws) = false := by simpa using h1
  by_cases h2 : 500 < mo
  · have t2 : decide (500 < mo) = true := by simpa using h2
    go_enter Try.func3, Try.ntmps3
    go_wp2_with (go_at_call 9; refine (slab_awake _).mono ?_; rintro e w1 ⟨rfl, h1⟩; have HA := Lib.hid h1; clear h1)
    go_ret
    exact ⟨rfl, HA.out.below (Nat.le_refl _) (by simp)⟩
  have t2 : decide (500 < mo) = false := by simpa using h2
  by_cases h3 : 0 < ws
  · have t3 : decide (0 < ws) = true := by simpa using h3
    by_cases h4 : 500 / ws < mo
    · have t4 : decide (500 / ws < mo) = true := by simpa using h4
      go_enter Try.func3, Try.ntmps3
      go_wp2_with (go_at_call 9; refine (slab_awake _).mono ?_; rintro e w1 ⟨rfl, h1⟩; have HA := Lib.hid h1; clear h1)
      go_ret
      exact ⟨rfl, HA.out.below (Nat.le_refl _) (by simp)⟩
    · have t4 : decide (500 / ws < mo) = false := by simpa using h4
      by_cases h5 : 1 ≤ mo
      · obtain ⟨W0, rfl⟩ := Int.eq_ofNat_of_zero_le (show 0 ≤ ws by omega)
        obtain ⟨M, rfl⟩ := Int.eq_ofNat_of_zero_le (show 0 ≤ mo by omega)
        refine play W0 M a0 len0 cap0 w w0 (by omega) (by omega) ?_
        rw [Int.not_lt, Int.le_ediv_iff_mul_le h3, Int.mul_comm] at h4
        have : ((W0 * M : Nat) : Int) = (W0 : Int) * M := by simp
        omega
      · have h6 : mo < 1 := by omega
        have HBN := Lib.hid (fun W => begun_no W ws mo (by omega))
        go_enter Try.func3, Try.ntmps3
        go_wp2_with (first | (go_at_call 9; refine (slab_awake _).mono ?_; rintro e w1 ⟨rfl, h1⟩; have HA := Lib.hid h1; clear h1) | (go_at_call 10; refine (HBN.out _).mono ?_; rintro e w2 ⟨pm, rfl, hf⟩; have HF := Lib.hid hf; clear hf))
        go_ret
        exact ⟨rfl, ((HA.out.trans HF.out (by simp)).alloc _).below (Nat.le_refl _) (by simp)⟩
  · have t3 : decide (0 < ws) = false := by simpa using h3
    have HBN := Lib.hid (fun W => begun_no W ws mo (by omega))
    go_enter Try.func3, Try.ntmps3
    go_wp2_with (first | (go_at_call 9; refine (slab_awake _).mono ?_; rintro e w1 ⟨rfl, h1⟩; have HA := Lib.hid h1; clear h1) | (go_at_call 10; refine (HBN.out _).mono ?_; rintro e w2 ⟨pm, rfl, hf⟩; have HF := Lib.hid hf; clear hf))
    go_ret
    exact ⟨rfl, ((HA.out.trans HF.out (by simp)).alloc _).below (Nat.le_refl _) (by simp)⟩

set_option maxRecDepth 100000 in
theorem contract (H : Type) (enc : TypeId × Value → H) (W : World) (base : Nat) (args : Array Value) (ds gs : List (DataW H)) (before : List MemPlace)
    (hval0 : ∀ (j : Nat) t v, Try.f3.params[j]? = some t → args[j]? = some v → Value.okWide Try.prog W .any base t v)
    (hW : DataW.Whole enc Try.prog Try.f3.params.toList Rows.slabPlaysSpec.vars false W args.toList ds gs before) :
    Calls Try.prog 3 args W fun e W' => ∃ v, e = .returned v ∧ Rows.slabPlaysSpec.post enc Try.prog Try.f3 false true false false W args v W' := by
  have hval : ∀ (j : Nat) t v, Try.f3.params[j]? = some t → args[j]? = some v → Value.okWide Try.prog W .any base t v := hval0
  have hW' := hW
  obtain ⟨p, q, hA0, hV, rfl, hfz, hnd⟩ := hW
  have hA : DataW.TrodAll enc Try.prog W 0 (fun _ => true) true Try.f3.params.toList args.toList ds p := hA0
  rw [Try.params3] at hA hval
  obtain ⟨v0, vs0, d0, ds0, p0, q0, hargs, rfl, rfl, h0, r0⟩ := trodAll_cons hA
  obtain ⟨v1, vs1, d1, ds1, p1, q1, rfl, rfl, rfl, h1, r1⟩ := trodAll_cons r0
  obtain ⟨v2, vs2, d2, ds2, p2, q2, rfl, rfl, rfl, h2, r2⟩ := trodAll_cons r1
  obtain ⟨rfl, rfl, rfl⟩ := trodAll_nil r2
  obtain rfl : args = #[v0, v1, v2] := by cases args; simp_all
  obtain ⟨rfl, rfl⟩ := trodVars_none hV
  have k0 := h0
  have lt0 : ∀ x ∈ p0, x.block < W.heap.size := by obtain ⟨m, hm⟩ := k0; exact DataW.trod_lt m _ _ _ hm
  have k1 := h1
  have lt1 : ∀ x ∈ p1, x.block < W.heap.size := by obtain ⟨m, hm⟩ := k1; exact DataW.trod_lt m _ _ _ hm
  have k2 := h2
  have lt2 : ∀ x ∈ p2, x.block < W.heap.size := by obtain ⟨m, hm⟩ := k2; exact DataW.trod_lt m _ _ _ hm
  obtain ⟨ws, rfl, _, _, wws⟩ := open_int Try.underlying3 (hval 0 3 v0 rfl rfl) h0
  obtain ⟨mo, rfl, _, _, wmo⟩ := open_int Try.underlying3 (hval 1 3 v1 rfl rfl) h1
  obtain ⟨a0, len0, cap0, rfl, w0⟩ := open_sdeeds (hval 2 22 v2 rfl rfl) h2
  clear hA0 hval0 hval
  refine (walk ws mo a0 len0 cap0 W wws wmo w0).mono fun e W' ⟨he, bel⟩ => ?_
  subst he
  exact ⟨_, rfl, _, _, _, [], _, [], hW', trodAll_mk1 (shut_bool Try.underlying4 _), (trodAll_cons_mk (Below.trod laid_prog (by kernel_rfl) (of_decide_eq_true (by kernel_rfl)) k0 bel lt0) (trodAll_cons_mk (Below.trod laid_prog (by kernel_rfl) (of_decide_eq_true (by kernel_rfl)) k1 bel lt1) (trodAll_cons_mk (Below.trod laid_prog (by kernel_rfl) (of_decide_eq_true (by kernel_rfl)) k2 bel lt2) trodAll_mk0))), rfl, bel.frame _, fun h => by cases h⟩

set_option maxRecDepth 100000 in
theorem lifted (os : Os) (started : os.Started) (H : Type) (enc : TypeId × Value → H) :
    ReturnsInHanded {} Try.checked os 3 .any (Rows.slabPlaysSpec.pre6 enc Try.prog Try.f3 Rows.slabPlaysRow.domain false) (Rows.slabPlaysSpec.post enc Try.prog Try.f3 false true false false) := by
  refine returnsInHanded_of_change (C := Try.checked) own_prog started (by kernel_rfl) Try.func3
    (ChangeSpec.witness6 (enc := enc) (C := Try.checked) false ⟨#[], #[.int .i64 0, .int .i64 0, .slice none 0 0], []⟩ 8 (by kernel_rfl) (by kernel_rfl) (by kernel_rfl) (by kernel_rfl)) ?_
  intro W base args ds gs before hval hW _ _
  exact contract H enc W base args ds gs before hval hW

theorem proved : Rows.SlabPlaysSaid :=
  OpenClaim.holds_of_wide 3 Try.f3 rfl rfl rfl rfl rfl rfl rfl ⟨rfl, rfl, rfl, rfl, rfl⟩ rfl rfl rfl rfl rfl (by kernel_rfl) Try.func3 (by kernel_rfl)
    (of_decide_eq_true (by kernel_rfl)) (by unfold Func.isWrapper; first | (rw [if_pos (by decide +kernel)]; kernel_rfl) | (rw [if_neg (by decide +kernel)]; exact ⟨rfl, rfl⟩))
    (fun os started H enc _ => lifted os started H enc)

end Go.Proofs.Ytkampbbginamhaa.lawSlabPlays
