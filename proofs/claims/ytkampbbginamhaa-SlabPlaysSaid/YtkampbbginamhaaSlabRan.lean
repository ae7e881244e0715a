/- CONTRACT OF impostlaw02.ran -/
import Derived.Test.YtkampbbginamhaaSlabLaw
import Derived.Test.YtkampbbginamhaaSlabHist
namespace Go.Proofs.Ytkampbbginamhaa
open Go.ChangeShapes Go.WideShapes Go.ChangeAt Go.RowKit Go.Deep
set_option linter.unusedVariables false
set_option linter.unusedSimpArgs false

theorem Lies.type {w : World} {e : TypeId} {size n : Nat} {v : Value} {xs : List Value} (h : Lies w e size v n xs) {k : Nat} (hk : v.ownBlock = some k) {c : Array Value} {t : TypeId} {f : Nat × Nat} (hb : w.heap[k]? = some (.cells c t f)) : t = e := by
  rcases h.2 with ⟨rfl, _⟩ | ⟨g, off, cap, cur, rfl, hg, _⟩
  · simp [Value.ownBlock] at hk
  · simp [Value.ownBlock] at hk; subst hk; rw [hg] at hb; cases hb; rfl
theorem owns_type {w : World} {base e size n : Nat} {v : Value} {xs : List Value} (h : w.ownsRow base e size v n xs) {k : Nat} (hk : v.ownBlock = some k) {c : Array Value} {t : TypeId} {f : Nat × Nat} (hb : w.heap[k]? = some (.cells c t f)) : t = e := by
  rcases h.2 with ⟨rfl, _⟩ | ⟨g, cap, cur, rfl, _, hg, _⟩
  · simp [Value.ownBlock] at hk
  · simp [Value.ownBlock] at hk; subst hk; rw [hg] at hb; cases hb; rfl
/-- a box of a Both is none of its blocks -/
theorem SBoth.far {w V FT N K s L} (h : SBoth w V FT N K s L) {X : Nat} {c : Array Value} {f : Nat × Nat} (hx : w.heap[X]? = some (.cells c 34 f)) : X ∉ FT ∧ X ∉ blks V := by
  obtain ⟨p, pm, mv, rv, fv, nn, mx, gx, tx, fx, k, lv, rfl, rfl, hs, hnn, hrf, hl, hap⟩ := h
  constructor
  · intro hm
    simp only [SlabAt.foot, List.mem_cons, List.mem_append, Option.mem_toList] at hm
    rcases hm with rfl | rfl | e | e | e
    · rw [hs.blk] at hx; cases hx
    · rw [hs.mem.blk] at hx; cases hx
    · exact absurd (owns_type hs.mem.row e hx) (by decide)
    · exact absurd (owns_type hs.recs e hx) (by decide)
    · exact absurd (hs.free.type e hx) (by decide)
  · intro hm
    simp [blks, Value.ownBlock] at hm
    rcases hm with e | e | e | e | e
    · exact absurd (owns_type hrf.cells e hx) (by decide)
    · exact absurd (hrf.gens.type e hx) (by decide)
    · exact absurd (hrf.taken.type e hx) (by decide)
    · exact absurd (hrf.free.type e hx) (by decide)
    · exact absurd (hl.type e hx) (by decide)
theorem SBoth.keep {S w w' V FT N K s L} (h : SBoth w V FT N K s L) (hf : Fr S w w') (hS : ∀ k ∈ S, k ∉ FT ∧ k ∉ blks V) : SBoth w' V FT N K s L := by
  obtain ⟨p, pm, mv, rv, fv, nn, mx, gx, tx, fx, k, lv, rfl, rfl, hs, hnn, hrf, hl, hap⟩ := h
  have hb : ∀ j, (j ∈ blks (refAgg mx gx tx fx k s) ∨ lv.ownBlock = some j) → j ∉ S := by
    intro j hj hm
    refine (hS j hm).2 ?_
    rw [blks_refAgg] at hj
    simp [blks, Value.ownBlock]
    rcases hj with (h | h | h | h) | h
    · exact Or.inl h
    · exact Or.inr (Or.inl h)
    · exact Or.inr (Or.inr (Or.inl h))
    · exact Or.inr (Or.inr (Or.inr (Or.inl h)))
    · exact Or.inr (Or.inr (Or.inr (Or.inr h)))
  exact ⟨p, pm, mv, rv, fv, nn, mx, gx, tx, fx, k, lv, rfl, rfl, hs.keep hf (fun j hj hm => (hS j hm).1 hj), hnn, hrf.keep hf (fun j hj => hb j (Or.inl hj)), hl.keep hf (fun j hj => hb j (Or.inr hj)), hap⟩
theorem SBoth.ft_lt {w V FT N K s L} (h : SBoth w V FT N K s L) : ∀ k ∈ FT, k < w.heap.size := by
  obtain ⟨p, pm, mv, rv, fv, nn, mx, gx, tx, fx, k, lv, rfl, rfl, hs, hnn, hrf, hl, hap⟩ := h
  exact hs.lt
/-- boxes of Boths are stored to, and new ones made -/
theorem SBoth.boxes {S w w' V FT N K s L} (h : SBoth w V FT N K s L) (hf : Fr S w w') (hS : ∀ k ∈ S, ∃ c f, w.heap[k]? = some (.cells c 34 f)) : SBoth w' V FT N K s L :=
  h.keep hf (fun k hk => by obtain ⟨c, f, hx⟩ := hS k hk; exact h.far hx)

def RanPost (w : World) (e : Ending) (w' : World) : Prop :=
  ∃ V FT s L, e = .returned V ∧ SBoth w' V FT 180 180 s L ∧ RInv s L 60 ∧ Fr [] w w' ∧ ∀ k ∈ FT, w.heap.size ≤ k
def nilBoth : Array Value := #[.pointer none, .pointer none, .slice none 0 0, .int .i64 0, .int .i64 0, .int .i64 0, .slice none 0 0, .slice none 0 0, .slice none 0 0, .slice none 0 0]
structure RanRel (w : World) (X j : Nat) (vc : Array Value) (FT : List Nat) (s : SS) (L : List Int) (wr : World) : Prop where
  fr : Fr [] w wr
  r : wr.heap[w.heap.size]? = some (.cells nilBoth 34 (0, 0))
  x : wr.heap[X]? = some (.cells vc 34 (0, 0))
  xr : w.heap.size < X
  both : SBoth wr (.agg vc) FT (3 * j) (3 * j) s L
  inv : RInv s L j
  ft : ∀ k ∈ FT, w.heap.size ≤ k

theorem RanRel.step {w wr w4 w5 : World} {X j : Nat} {vc vc' : Array Value} {FT FT' : List Nat} {s : SS} {L : List Int} {S : List Nat} {kind i n v raw : Int} (h : RanRel w X j vc FT s L wr) (hf : Fr FT wr w4)
    {vx : Array Value} (hx4 : w4.heap[X]? = some (.cells vx 34 (0, 0))) (hr4 : w4.heap[w.heap.size]? = some (.cells nilBoth 34 (0, 0)))
    (hb : SBoth w4 (.agg vc') FT' (3 * (j + 1)) (3 * (j + 1)) (s.deedS L kind i n v raw) (s.deedL L kind)) (hn : ∀ k ∈ FT', w.heap.size ≤ k) (h5 : Fr S w4 w5)
    (hblk : w5.heap[X]? = some (.cells vc' 34 (0, 0))) (hS : ∀ k ∈ S, k = X ∨ (k = wr.heap.size ∧ ∃ c f, w4.heap[k]? = some (.cells c 34 f))) (hj : j ≤ 60) :
    RanRel w X (j + 1) vc' FT' (s.deedS L kind i n v raw) (s.deedL L kind) w5 := by
  have hxr := h.xr
  have hxl := lt_of_block h.x
  have hws := h.fr.size
  refine ⟨(h.fr.trans hf (fun k hk => Or.inr (h.ft k hk))).trans h5 (fun k hk => ?_), h5.keep hr4 (fun hm => ?_), hblk, hxr, hb.boxes h5 (fun k hk => ?_), h.inv.deed (by omega) kind i n v raw, hn⟩
  · rcases hS k hk with e | e
    · exact Or.inr (by omega)
    · exact Or.inr (by omega)
  · rcases hS _ hm with e | e <;> omega
  · rcases hS k hk with e | e
    · subst e; exact ⟨_, _, hx4⟩
    · exact e.2

set_option maxRecDepth 100000 in
set_option maxHeartbeats 2000000 in
theorem sran_any (w : World) (a : Option Addr) (len cap : Nat) (hd : SDeeds w a len cap) :
    Calls Try.prog 16 #[.slice a len cap] w (RanPost w) := by
  have HD := Lib.hid hd
  have hm : len ≤ 9223372036854775807 := by have := hd.1; have := hd.2.1; unfold maxLen at this; omega
  clear hd
  go_enter Try.func16, Try.ntmps16
  go_wp2_with (go_at_call 10; refine (begun_34 _).mono ?_; rintro e w1 ⟨V, FT, rfl, hb, hf, hn⟩; refine go_stop ?_)
  obtain ⟨p, pm, mv, rv, mx, k, gx, tx, fx, lv, rfl, _, _, _, _, ⟨ma, mn, mc, rfl⟩, ⟨ga, gn, gc, rfl⟩, ⟨ta, tn, tc, rfl⟩, ⟨fa, fn, fc, rfl⟩, la, lc, hlv⟩ := hb.own
  replace hlv : lv = .slice la 0 lc := hlv
  subst hlv
  have hR := hf.keep (new_block w _) (by simp)
  obtain ⟨X, hX⟩ : ∃ X, X = w1.heap.size := ⟨_, rfl⟩
  have hsz1 : w.heap.size < w1.heap.size := lt_of_block hR
  have hrel : RanRel w X 0 #[.pointer (some ⟨p, 0, none⟩), .pointer (some ⟨pm, 0, none⟩), .slice ma mn mc, .int .i64 k, .int .i64 s34.first, .int .i64 s34.words, .slice ga gn gc, .slice ta tn tc, .slice fa fn fc, .slice la 0 lc] FT s34 []
      (w1.alloc (.cells #[.pointer (some ⟨p, 0, none⟩), .pointer (some ⟨pm, 0, none⟩), .slice ma mn mc, .int .i64 k, .int .i64 s34.first, .int .i64 s34.words, .slice ga gn gc, .slice ta tn tc, .slice fa fn fc, .slice la 0 lc] 34)) := by
    refine ⟨((((Fr.refl [] w).alloc _).trans hf (by simp)).alloc _), blk_alloc hR _, by rw [hX]; exact new_block _ _, by omega, hb.keep ((Fr.refl [] w1).alloc _) (by simp), RInv.new, fun j hj => by have := hn j hj; first | omega | (simp at this; omega)⟩
  have HREL := Lib.hid hrel
  have HX := Lib.hid hX
  clear hb hf hn hR hrel
  unfold Stop
  go_wp2_with fail
  rw [← hX]
  clear hX
  go_loopw [5] (fun i wr => ∃ (j : Nat) (vc : Array Value) (FT : List Nat) (s : SS) (L : List Int), i = .int .i64 j ∧ j ≤ len ∧ j ≤ 60 ∧ RanRel w X j vc FT s L wr) (fun i _ => 60 - (intOf i).toNat)
  case atStart => exact ⟨0, _, _, _, _, rfl, Nat.zero_le _, Nat.zero_le _, HREL.out⟩
  case round =>
    obtain ⟨j, vc, FT, s, L, rfl, hj, hj60, hrel⟩ := hrel
    obtain ⟨p, pm, mv, rv, mx, k, gx, tx, fx, lv, hvc, _, _, _, _, ⟨ma, mn, mc, rfl⟩, ⟨ga, gn, gc, rfl⟩, ⟨ta, tn, tc, rfl⟩, ⟨fa, fn, fc, rfl⟩, la, lc, rfl⟩ := hrel.both.own
    simp only [Value.agg.injEq] at hvc
    subst hvc
    obtain ⟨x0, x1, x2, x3, x4, x5, x6, x7, x8, x9, fx⟩ := cells10 hrel.x
    have hXlt : X < wr.heap.size := lt_of_block hrel.x
    have hxr := hrel.xr
    by_cases hgo : j < len ∧ j < 60
    · obtain ⟨hlt, hlt60⟩ := hgo
      have ht1 : decide (j < len) = true := by simpa using hlt
      have ht2 : decide ((j : Int) < 60) = true := by simp; omega
      obtain ⟨b, off, rfl, hbw, _⟩ := HD.out.2.2 (by omega)
      have hd' := HD.out.keep hrel.fr
      obtain ⟨b', off', hbe, hbw', hcells⟩ := hd'.2.2 (by omega)
      simp only [Option.some.injEq, Addr.mk.injEq, and_true] at hbe
      obtain ⟨rfl, rfl⟩ := hbe
      obtain ⟨kind, x, n, v, raw, n0, n1, hw, c0, c1, c2, c3, c4⟩ := hcells j hlt
      have HDO : Hid (∀ W, Fr [] wr W → Calls Try.prog 11 #[.agg #[.pointer (some ⟨p, 0, none⟩), .pointer (some ⟨pm, 0, none⟩), .slice ma mn mc, .int .i64 k, .int .i64 s.first, .int .i64 s.words, .slice ga gn gc, .slice ta tn tc, .slice fa fn fc, .slice la L.length lc], .agg #[.int .i64 kind, .int .i64 x, .int .u8 n, .int .u64 v, .int .u64 raw]] W (DoOut W FT (3 * (j + 1)) (3 * (j + 1)) (s.deedS L kind x n v raw) (s.deedL L kind))) :=
        Lib.hid (fun W hW => by
          have hi := hrel.inv.inv
          have hwd := hrel.inv.words
          have hrw := hi.row
          have hln := hi.len
          exact (do_any W kind x n v raw (hrel.both.keep hW (by simp)) hi.ok (by omega) (by omega) (by omega) (by omega) (by omega) n0 n1 hw hi.word).mono fun e w' h => h.mono (by omega) (by omega))
      have hXF : X ∉ FT := (hrel.both.far hrel.x).1
      have hRF : w.heap.size ∉ FT := (hrel.both.far hrel.r).1
      have hbF : b ∉ FT := fun h => by have := hrel.ft b h; omega
      have HCF := Lib.hid (fun h => by have := hrel.both.ft_lt _ h; omega : wr.heap.size ∉ FT)
      have HREL := Lib.hid hrel
      have HXF := Lib.hid hXF
      have HRF := Lib.hid hRF
      have HBF := Lib.hid hbF
      have q1 : ¬ X = b := by omega
      have q2 : ¬ wr.heap.size = X := by omega
      have q3 : ¬ wr.heap.size = b := by omega
      clear hrel hcells hd' hXF hRF hbF
      go_wp2_with fail
      go_region_held3 (fun w' => w'.cell? ⟨X, 0, none⟩ = some (.pointer (some ⟨p, 0, none⟩)) ∧ w'.cell? ⟨X, 1, none⟩ = some (.pointer (some ⟨pm, 0, none⟩)) ∧ w'.cell? ⟨X, 2, none⟩ = some (.slice ma mn mc) ∧ w'.cell? ⟨X, 3, none⟩ = some (.int .i64 k) ∧ w'.cell? ⟨X, 4, none⟩ = some (.int .i64 s.first) ∧ w'.cell? ⟨X, 5, none⟩ = some (.int .i64 s.words) ∧ w'.cell? ⟨X, 6, none⟩ = some (.slice ga gn gc) ∧ w'.cell? ⟨X, 7, none⟩ = some (.slice ta tn tc) ∧ w'.cell? ⟨X, 8, none⟩ = some (.slice fa fn fc) ∧ w'.cell? ⟨X, 9, none⟩ = some (.slice la L.length lc) ∧ w'.cell? ⟨b, off + j * 5, none⟩ = some (.int .i64 kind) ∧ w'.cell? ⟨b, off + j * 5 + 1, none⟩ = some (.int .i64 x) ∧ w'.cell? ⟨b, off + j * 5 + 2, none⟩ = some (.int .u8 n) ∧ w'.cell? ⟨b, off + j * 5 + 3, none⟩ = some (.int .u64 v) ∧ w'.cell? ⟨b, off + j * 5 + 4, none⟩ = some (.int .u64 raw)) (go_keep)
        (first | (go_at_call 11; refine (HDO.out _ ?_).mono ?_; · first | exact (Fr.refl _ _).drew | exact ((Fr.refl _ _).alloc _).drew
                  rintro e w4 ⟨V', FT', rfl, hb', hf', hn'⟩
                  have hf2 : Fr FT wr w4 := by first | exact ((Fr.refl _ _).drew).trans hf' (fun _ h => Or.inl h) | exact (((Fr.refl _ _).alloc _).drew).trans hf' (fun _ h => Or.inl h)
                  try (have hc4 := hf'.keep (p := wr.heap.size) (o := .cells nilBoth 34) (by exact new_block wr _) HCF.out; have hc4' := hc4; unfold nilBoth at hc4'; obtain ⟨z0, z1, z2, z3, z4, z5, z6, z7, z8, z9, fz⟩ := cells10 hc4'; have HC4 := Lib.hid hc4; clear hc4 hc4')
                  have hw4 : wr.heap.size ≤ w4.heap.size := hf2.size
                  have hx4 := hf2.keep HREL.out.x HXF.out
                  have hr4 := hf2.keep HREL.out.r HRF.out
                  have c0' := hf2.cell c0 HBF.out
                  have c1' := hf2.cell c1 HBF.out
                  have c2' := hf2.cell c2 HBF.out
                  have c3' := hf2.cell c3 HBF.out
                  have c4' := hf2.cell c4 HBF.out
                  have hn2 : ∀ k ∈ FT', w.heap.size ≤ k := fun k hk => (hn' k hk).elim (HREL.out.ft k) (fun h => by have := HREL.out.fr.size; first | omega | (simp at h; omega))
                  obtain ⟨p', pm', mv', rv', mx', k', gx', tx', fx', lv', rfl, _, _, _, _, ⟨ma', mn', mc', rfl⟩, ⟨ga', gn', gc', rfl⟩, ⟨ta', tn', tc', rfl⟩, ⟨fa', fn', fc', rfl⟩, la', lc', rfl⟩ := hb'.own
                  obtain ⟨y0, y1, y2, y3, y4, y5, y6, y7, y8, y9, fy⟩ := cells10 hx4
                  have hX4 := lt_of_block hx4
                  have q4 : ¬ w4.heap.size = X := by omega
                  have q5 : ¬ w4.heap.size = b := by omega
                  have HX4 := Lib.hid hx4
                  have HR4 := Lib.hid hr4
                  have HB4 := Lib.hid hb'
                  have HF2 := Lib.hid hf2
                  have HN2 := Lib.hid hn2
                  clear hx4 hr4 hb' hf' hn' hf2 hn2))
      all_goals go_wp2
      all_goals go_roundw
      case rel =>
        refine ⟨j + 1, #[.pointer (some ⟨p', 0, none⟩), .pointer (some ⟨pm', 0, none⟩), .slice ma' mn' mc', .int .i64 k', .int .i64 (s.deedS L kind x n v raw).first, .int .i64 (s.deedS L kind x n v raw).words, .slice ga' gn' gc', .slice ta' tn' tc', .slice fa' fn' fc', .slice la' (s.deedL L kind).length lc'], FT', s.deedS L kind x n v raw, s.deedL L kind, by go_num, by omega, by omega, ?_⟩
        refine RanRel.step (S := [X]) HREL.out HF2.out HX4.out HR4.out HB4.out HN2.out ?_ ?_ (by intro k hk; simp at hk; exact Or.inl hk) hj60
        · repeat (first | (with_reducible exact Fr.refl _ _) | (with_reducible refine Fr.alloc ?_ _) | (with_reducible refine Fr.drew ?_) | (with_reducible refine Fr.setCell ?_ (Or.inl (by simp)) _))
        · rw [Below.heap_alloc _ _ _ (by simp; exact hX4)]
          simpa using (set_block (set_block (set_block (set_block (set_block (set_block (set_block (set_block (set_block (set_block HX4.out 0 _) 1 _) 2 _) 3 _) 4 _) 5 _) 6 _) 7 _) 8 _) 9 _)
      case measure => simp [intOf]; omega
      case rel =>
        refine ⟨j + 1, #[.pointer (some ⟨p', 0, none⟩), .pointer (some ⟨pm', 0, none⟩), .slice ma' mn' mc', .int .i64 k', .int .i64 (s.deedS L kind x n v raw).first, .int .i64 (s.deedS L kind x n v raw).words, .slice ga' gn' gc', .slice ta' tn' tc', .slice fa' fn' fc', .slice la' (s.deedL L kind).length lc'], FT', s.deedS L kind x n v raw, s.deedL L kind, by go_num, by omega, by omega, ?_⟩
        refine RanRel.step (S := [X, wr.heap.size]) HREL.out HF2.out HX4.out HR4.out HB4.out HN2.out ?_ ?_ (by intro k hk; simp at hk; rcases hk with hk | hk; exact Or.inl hk; exact Or.inr ⟨hk, _, _, by rw [hk]; exact HC4.out⟩) hj60
        · repeat (first | (with_reducible exact Fr.refl _ _) | (with_reducible refine Fr.alloc ?_ _) | (with_reducible refine Fr.drew ?_) | (with_reducible refine Fr.setCell ?_ (Or.inl (by simp)) _))
        · have hne : X ≠ wr.heap.size := fun h => q2 h.symm
          simpa using (set_block (set_block (set_block (set_block (set_block (set_block (set_block (set_block (set_block (set_block (set_other (set_other (set_other (set_other (set_other (set_other (set_other (set_other (set_other (set_other HX4.out hne 0 _) hne 1 _) hne 2 _) hne 3 _) hne 4 _) hne 5 _) hne 6 _) hne 7 _) hne 8 _) hne 9 _) 0 _) 1 _) 2 _) 3 _) 4 _) 5 _) 6 _) 7 _) 8 _) 9 _)
      case measure => simp [intOf]; omega
    · have hrr := hrel.r
      unfold nilBoth at hrr
      obtain ⟨z0, z1, z2, z3, z4, z5, z6, z7, z8, z9, fz⟩ := cells10 hrr
      have q1 : ¬ w.heap.size = X := by omega
      have q2 : ¬ X = w.heap.size := by omega
      have hinv : RInv s L 60 := ⟨hrel.inv.inv.mono hj60, hrel.inv.hist, hrel.inv.words, hrel.inv.first, hrel.inv.len⟩
      have hfin : ∀ w', Fr [w.heap.size] wr w' → RanPost w (.returned (.agg #[.pointer (some ⟨p, 0, none⟩), .pointer (some ⟨pm, 0, none⟩), .slice ma mn mc, .int .i64 k, .int .i64 s.first, .int .i64 s.words, .slice ga gn gc, .slice ta tn tc, .slice fa fn fc, .slice la L.length lc])) w' := by
        intro w' hw'
        refine ⟨_, FT, s, L, rfl, (hrel.both.mono (by omega) (by omega)).boxes hw' (by intro k hk; simp at hk; subst hk; exact ⟨_, _, hrel.r⟩), hinv, hrel.fr.trans hw' (by intro x hx; simp at hx; exact Or.inr (by omega)), hrel.ft⟩
      have HFIN := Lib.hid hfin
      clear hfin hrel hrr hinv
      by_cases hlt : j < len
      all_goals first
        | have ht1 : decide (j < len) = true := by simpa using hlt
          have ht2 : decide ((j : Int) < 60) = false := by simp; omega
        | have ht1 : decide (j < len) = false := by simpa using hlt
      all_goals
        go_wp2
        refine bodyPost_ret (v := .agg #[.pointer (some ⟨p, 0, none⟩), .pointer (some ⟨pm, 0, none⟩), .slice ma mn mc, .int .i64 k, .int .i64 s.first, .int .i64 s.words, .slice ga gn gc, .slice ta tn tc, .slice fa fn fc, .slice la L.length lc]) (by simp [results, Try.results16, go_sem, *]) rfl (HFIN.out _ ?_)
        repeat (first | (with_reducible exact Fr.refl _ _) | (with_reducible refine Fr.alloc ?_ _) | (with_reducible refine Fr.drew ?_) | (with_reducible refine Fr.setCell ?_ (Or.inl (by simp)) _))
end Go.Proofs.Ytkampbbginamhaa
