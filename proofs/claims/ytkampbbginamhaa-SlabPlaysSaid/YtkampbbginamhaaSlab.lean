/- CONTRACTS OF PACKAGE slab -/
import Derived.Test.YtkampbbginamhaaLies
import Derived.Test.YtkampbbginamhaaMem
namespace Go.Proofs.Ytkampbbginamhaa
open Go.RowKit
set_option linter.unusedVariables false
set_option linter.unusedSimpArgs false

/-- a ref's place and generation; the ref of a place at a generation -/
def plc (r : Int) : Int := r % 4294967296 - 1
def gnr (r : Int) : Int := r / 4294967296
def mkr (p g : Int) : Int := g * 4294967296 + p + 1
/-- a word -/
def IsW (r : Int) : Prop := 0 ≤ r ∧ r < 18446744073709551616
theorem plc_bd (r : Int) : -1 ≤ plc r ∧ plc r ≤ 4294967294 := by unfold plc; omega
theorem gnr_bd {r : Int} (h : IsW r) : 0 ≤ gnr r ∧ gnr r ≤ 4294967295 := by unfold gnr IsW at *; omega
theorem plc_mkr {p g : Int} (h0 : 0 ≤ p) (h1 : p ≤ 1000000) : plc (mkr p g) = p := by unfold plc mkr; omega
theorem gnr_mkr {p g : Int} (h0 : 0 ≤ p) (h1 : p ≤ 1000000) : gnr (mkr p g) = g := by unfold gnr mkr; omega
theorem mkr_isW {p g : Int} (h0 : 0 ≤ p) (h1 : p ≤ 1000000) (g0 : 0 ≤ g) (g1 : g ≤ 4000000000) : IsW (mkr p g) := by unfold IsW mkr; omega
theorem mkr_of (r : Int) : mkr (plc r) (gnr r) = r := by unfold mkr plc gnr; omega

theorem wraps_u64 : ∀ n : Int, 0 ≤ n → n < 2 ^ 64 → IntKind.u64.wrap n = n := by
  intro n h0 h1; rw [IntKind.wrap_u64]; omega
theorem and_low (r : Int) (h : IsW r) : bits BinOp.and IntKind.u64 r 4294967295 = r % 4294967296 :=
  bits_mask .u64 64 (by decide) wraps_u64 32 (by decide) r h.1 h.2
theorem or_join (g p : Int) (h0 : 0 ≤ p) (h1 : p < 4294967295) (g0 : 0 ≤ g) (g1 : g ≤ 1000000) : bits BinOp.or IntKind.u64 (g * 4294967296) (p + 1) = mkr p g := by
  have := bits_join .u64 64 (by decide) wraps_u64 32 (g * 4294967296) (p + 1) (by omega) (by omega) (by omega) (by omega) (by omega) (by omega)
  rw [this]; unfold mkr; omega
theorem wrap_low {n : Int} (h0 : -1 ≤ n) (h1 : n ≤ 4294967296) : wrap64 n = n := IntWalk.wrap64_in n ⟨by omega, by omega⟩

theorem slab_place (r : Int) (w : World) (h : IsW r) :
    Calls Try.prog 17 #[.int .u64 r] w fun e w' => e = .returned (.int .i64 (plc r)) ∧ w = w' := by
  have HA := Lib.hid (and_low r h)
  have H := Lib.hid h
  clear h
  go_enter Try.func17, Try.ntmps17
  go_wp2
  go_ret
  refine ⟨?_, rfl⟩
  rw [HA.out, wrap_low (n := r % 4294967296) (by omega) (by omega), wrap_low (by omega) (by omega)]; rfl
theorem slab_gen (r : Int) (w : World) (h : IsW r) :
    Calls Try.prog 18 #[.int .u64 r] w fun e w' => e = .returned (.int .i64 (gnr r)) ∧ w = w' := by
  obtain ⟨h0, h1⟩ := h
  go_enter Try.func18, Try.ntmps18
  go_wp2
  go_ret
  exact ⟨rfl, rfl⟩
theorem slab_ref (p g : Int) (w : World) (h0 : 0 ≤ p) (h1 : p ≤ 65536) (g0 : 0 ≤ g) (g1 : g ≤ 1000000) :
    Calls Try.prog 36 #[.int .i64 p, .int .i64 g] w fun e w' => e = .returned (.int .u64 (mkr p g)) ∧ w = w' := by
  go_enter Try.func36, Try.ntmps36
  go_wp2
  go_ret
  exact ⟨by rw [or_join g p h0 (by omega) g0 g1]; rfl, rfl⟩

/-- records in cells -/
structure SS where
  first : Nat
  words : Nat
  recs : List (Int × Bool)
  row : List Nat
  c : List Int
def recCells : List (Int × Bool) → List Value
  | [] => []
  | r :: l => .int .i64 r.1 :: .bool r.2 :: recCells l
theorem recCells_len : ∀ l, (recCells l).length = l.length * 2
  | [] => rfl
  | _ :: l => by simp [recCells, recCells_len l]; omega
theorem recCells_at : ∀ (l : List (Int × Bool)) (j : Nat) (g : Int) (t : Bool), l[j]? = some (g, t) → (recCells l)[j * 2]? = some (.int .i64 g) ∧ (recCells l)[j * 2 + 1]? = some (.bool t)
  | [], _, _, _, h => by simp at h
  | r :: l, 0, g, t, h => by simp at h; subst h; simp [recCells]
  | r :: l, j + 1, g, t, h => by
    have := recCells_at l j g t (by simpa using h)
    rw [show (j + 1) * 2 = j * 2 + 1 + 1 by omega]
    simpa [recCells] using this
theorem recCells_set : ∀ (l : List (Int × Bool)) (j : Nat) (g : Int) (t : Bool), recCells (l.set j (g, t)) = ((recCells l).set (j * 2) (.int .i64 g)).set (j * 2 + 1) (.bool t)
  | [], _, _, _ => rfl
  | r :: l, 0, g, t => by simp [recCells]
  | r :: l, j + 1, g, t => by
    rw [show (j + 1) * 2 = j * 2 + 1 + 1 by omega]
    simp [recCells, recCells_set l j g t]
theorem recCells_zero (n : Nat) : recCells (List.replicate n (0, false)) = (List.replicate n [Value.int .i64 0, .bool false]).flatten := by
  induction n with
  | zero => rfl
  | succ n ih => simp [List.replicate_succ, recCells, ih]

def SS.has (s : SS) (r : Int) : Bool := decide (0 ≤ plc r ∧ plc r < s.recs.length) && decide (s.recs[(plc r).toNat]? = some (gnr r, true))

/-- the slab at block p, its Mem at pm; mv, rv, fv: its cells' slice, that of its records, and of its free places; n: how often its Mem was asked -/
structure SlabAt (w : World) (p pm : Nat) (mv rv fv : Value) (n : Nat) (s : SS) : Prop where
  blk : w.heap[p]? = some (.cells #[.pointer (some ⟨pm, 0, none⟩), .int .i64 s.first, .int .i64 s.words, rv, fv] 77 (0, 0))
  mem : MemAt w pm mv ⟨s.c, n⟩
  recs : w.ownsRow 0 85 2 rv s.recs.length (recCells s.recs)
  free : Lies w 3 1 fv s.row.length (s.row.map fun (q : Nat) => Value.int .i64 q)
  sep : (p :: pm :: (mv.ownBlock.toList ++ (rv.ownBlock.toList ++ fv.ownBlock.toList))).Nodup
def SlabAt.foot (p pm : Nat) (mv rv fv : Value) : List Nat := p :: pm :: (mv.ownBlock.toList ++ (rv.ownBlock.toList ++ fv.ownBlock.toList))

theorem SlabAt.keep {S w w' p pm mv rv fv n s} (h : SlabAt w p pm mv rv fv n s) (hf : Fr S w w') (hv : ∀ k ∈ SlabAt.foot p pm mv rv fv, k ∉ S) : SlabAt w' p pm mv rv fv n s := by
  simp only [SlabAt.foot, List.mem_cons, List.mem_append, Option.mem_toList] at hv
  exact ⟨hf.keep h.blk (hv _ (Or.inl rfl)), h.mem.keep hf (hv _ (Or.inr (Or.inl rfl))) (fun k hk => hv _ (Or.inr (Or.inr (Or.inl hk)))), ownsRow_fr hf h.recs (fun k hk => hv _ (Or.inr (Or.inr (Or.inr (Or.inl hk))))),
    h.free.keep hf (fun k hk => hv _ (Or.inr (Or.inr (Or.inr (Or.inr hk))))), h.sep⟩

theorem owns_form {w : World} {base e size n : Nat} {v : Value} {xs : List Value} (ho : w.ownsRow base e size v n xs) :
    (v = .slice none 0 0 ∧ n = 0) ∨ ∃ g c, v = .slice (some ⟨g, 0, none⟩) n c ∧ g < w.heap.size ∧ n ≤ c := by
  rcases ho.2 with h | ⟨g, cap, cur, hv, hg, hh, h5, _⟩
  · exact Or.inl h
  · exact Or.inr ⟨g, cap, hv, lt_of_block hh, h5⟩

theorem SS.has_in {s : SS} {r : Int} {q : Nat} {g : Int} {t : Bool} (hq : (q : Int) = plc r) (hat : s.recs[q]? = some (g, t)) : s.has r = (decide (g = gnr r) && t) := by
  have h := (List.getElem?_eq_some_iff.1 hat).1
  unfold SS.has
  rw [← hq, Int.toNat_natCast, hat, decide_eq_true (show 0 ≤ (q : Int) ∧ (q : Int) < s.recs.length by omega)]
  rw [Bool.eq_iff_iff]
  simp
theorem SS.has_out {s : SS} {r : Int} (h : ¬ (0 ≤ plc r ∧ plc r < s.recs.length)) : s.has r = false := by
  unfold SS.has
  rw [decide_eq_false h]; rfl

theorem slab_has (w : World) (p pm : Nat) (r : Int) {mv rv fv n s} (h : SlabAt w p pm mv rv fv n s) (hr : IsW r) (hl : s.recs.length ≤ 65536) :
    Calls Try.prog 34 #[.pointer (some ⟨p, 0, none⟩), .int .u64 r] w fun e w' => e = .returned (.bool (s.has r)) ∧ ∃ k, w' = w.drewN k := by
  have b0 := plc_bd r
  have b1 := gnr_bd hr
  have HP := Lib.hid (slab_place r · hr)
  have HG := Lib.hid (slab_gen r · hr)
  have HR := Lib.hid hr
  obtain ⟨q, hq⟩ : ∃ q, q = plc r := ⟨_, rfl⟩
  obtain ⟨gg, hgg⟩ : ∃ gg, gg = gnr r := ⟨_, rfl⟩
  rw [← hq] at b0
  rw [← hgg] at b1
  have c3 := cell_block h.blk 3
  simp at c3
  have H := Lib.hid h
  by_cases h1 : 0 ≤ q ∧ q < s.recs.length
  · obtain ⟨h1, h2⟩ := h1
    obtain ⟨q, rfl⟩ := Int.eq_ofNat_of_zero_le h1
    have h2' : q < s.recs.length := by omega
    rcases owns_form h.recs with ⟨_, hn⟩ | ⟨g, c, rfl, hg, hc⟩
    · omega
    obtain ⟨⟨gg', t⟩, hat⟩ : ∃ x, s.recs[q]? = some x := ⟨_, List.getElem?_eq_getElem h2'⟩
    obtain ⟨r0, r1⟩ := recCells_at _ _ _ _ hat
    have d0 := h.recs.cells (g := g) rfl _ _ r0
    have d1 := h.recs.cells (g := g) rfl _ _ r1
    simp only [Addr.add_lit, Nat.zero_add] at d0 d1
    have HV := Lib.hid (SS.has_in hq hat)
    have HQ := Lib.hid hq
    have HGG := Lib.hid hgg
    have t1 : decide (0 ≤ (q : Int)) = true := by simp
    have t2 : decide ((q : Int) < s.recs.length) = true := by simpa using h2'
    have t3 : decide (q < s.recs.length) = true := by simpa using h2'
    clear h hr hq hgg hat r0 r1
    by_cases he : gg' = gg
    · subst he
      cases t
      all_goals
        go_enter Try.func34, Try.ntmps34
        go_wp2_with (go_at_call 17; refine (HP.out _).mono ?_; rintro e w1 ⟨rfl, rfl⟩; rw [← HQ.out])
        go_quiet ((go_at_call 18; exact Calls.quiet_of_same ((HG.out _).mono fun _ _ ⟨he, hw⟩ => ⟨by rw [he, ← HGG.out], hw.symm⟩)))
        go_wp2
        go_ret
        exact ⟨by rw [HV.out, HGG.out]; simp, _, rfl⟩
    · go_enter Try.func34, Try.ntmps34
      go_wp2_with (go_at_call 17; refine (HP.out _).mono ?_; rintro e w1 ⟨rfl, rfl⟩; rw [← HQ.out])
      go_quiet ((go_at_call 18; exact Calls.quiet_of_same ((HG.out _).mono fun _ _ ⟨he, hw⟩ => ⟨by rw [he, ← HGG.out], hw.symm⟩)))
      go_wp2
      go_ret
      exact ⟨by rw [HV.out, ← HGG.out, decide_eq_false he]; rfl, _, rfl⟩
  · have HV := Lib.hid (SS.has_out (s := s) (r := r) (by rw [← hq]; exact h1))
    have HQ := Lib.hid hq
    have hv' : ∃ a c, rv = .slice a s.recs.length c := by
      rcases owns_form h.recs with ⟨rfl, hn⟩ | ⟨g, c, rfl, hg, hc⟩
      · exact ⟨none, 0, by rw [hn]⟩
      · exact ⟨_, c, rfl⟩
    obtain ⟨a, c, rfl⟩ := hv'
    clear h hr hq hgg
    by_cases h0 : 0 ≤ q
    all_goals first
      | have t1 : decide (0 ≤ q) = true := by simpa using h0
        have t2 : decide (q < s.recs.length) = false := by simp; omega
      | have t1 : decide (0 ≤ q) = false := by simpa using h0
    all_goals
      go_enter Try.func34, Try.ntmps34
      go_wp2_with (go_at_call 17; refine (HP.out _).mono ?_; rintro e w1 ⟨rfl, rfl⟩; rw [← HQ.out])
      go_quiet (fail)
      go_wp2
      go_ret
      exact ⟨by rw [HV.out]; rfl, _, rfl⟩

theorem slab_cell (w : World) (p pm : Nat) (q i : Int) {mv rv fv n s} (h : SlabAt w p pm mv rv fv n s) (h0 : 0 ≤ q) (h1 : q ≤ 65536) (i0 : 0 ≤ i) (i1 : i ≤ 65536) (hf : s.first ≤ 65536) (hw : s.words ≤ 65536) :
    Calls Try.prog 35 #[.pointer (some ⟨p, 0, none⟩), .int .i64 q, .int .i64 i] w fun e w' => e = .returned (.int .i64 (s.first + q * s.words + i)) ∧ ∃ k, w' = w.drewN k := by
  have c1 := cell_block h.blk 1
  have c2 := cell_block h.blk 2
  simp at c1 c2
  have hm : 0 ≤ q * s.words ∧ q * s.words ≤ 4294967296 := ⟨Int.mul_nonneg h0 (by omega), by
    have := Int.mul_le_mul h1 (show (s.words : Int) ≤ 65536 by omega) (by omega) (by omega); omega⟩
  have hx := IntWalk.i64_in (q * s.words) ⟨by omega, by omega⟩
  have hx2 := IntWalk.i64_in (s.first + q * s.words) ⟨by omega, by omega⟩
  have hx3 := IntWalk.i64_in (s.first + q * s.words + i) ⟨by omega, by omega⟩
  clear h hm
  go_enter Try.func35, Try.ntmps35
  go_wp2
  go_quiet (fail)
  go_wp2
  go_ret
  exact ⟨rfl, _, rfl⟩

theorem slab_live (w : World) (p pm : Nat) {mv rv fv n s} (h : SlabAt w p pm mv rv fv n s) (hl : s.recs.length ≤ 65536) (hr : s.row.length ≤ 65536) :
    Calls Try.prog 12 #[.pointer (some ⟨p, 0, none⟩)] w fun e w' => e = .returned (.int .i64 ((s.recs.length : Int) - s.row.length)) ∧ ∃ k, w' = w.drewN k := by
  have c3 := cell_block h.blk 3
  have c4 := cell_block h.blk 4
  simp at c3 c4
  have hv' : ∃ a c, rv = .slice a s.recs.length c := by
    rcases owns_form h.recs with ⟨rfl, hn⟩ | ⟨g, c, rfl, hg, hc⟩
    · exact ⟨none, 0, by rw [hn]⟩
    · exact ⟨_, c, rfl⟩
  obtain ⟨a, c, rfl⟩ := hv'
  obtain ⟨a', c', rfl, _⟩ := h.free.form
  have hx := IntWalk.i64_in ((s.recs.length : Int) - s.row.length) ⟨by omega, by omega⟩
  clear h
  go_enter Try.func12, Try.ntmps12
  go_wp2
  go_quiet (fail)
  go_wp2
  go_ret
  exact ⟨rfl, _, rfl⟩
theorem slab_live_nil (w : World) : Calls Try.prog 12 #[.pointer none] w fun e w' => e = .returned (.int .i64 0) ∧ w = w' := by
  go_enter Try.func12, Try.ntmps12
  go_wp2
  go_ret
  exact ⟨rfl, rfl⟩
end Go.Proofs.Ytkampbbginamhaa
