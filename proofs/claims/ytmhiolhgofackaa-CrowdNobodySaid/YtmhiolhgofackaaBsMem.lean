/- CONTRACTS OF PACKAGE mem: what each call tells, and what the cells are then. -/
import Derived.Test.YtmhiolhgofackaaLib
namespace Go.Proofs.Ytmhiolhgofackaa
open Go.RowKit
set_option linter.unusedVariables false
set_option linter.unusedSimpArgs false

/-- cells, and how often they were asked -/
structure MS where
  c : List Int
  n : Nat
def MS.has (m : MS) (a : Int) : Bool := decide (0 ≤ a ∧ a < m.c.length)
def MS.ask (m : MS) (a : Int) : MS := if m.has a then ⟨m.c, m.n + 1⟩ else m
def MS.at (m : MS) (a : Int) : Int := if m.has a then m.c.getD a.toNat 0 else 0
def MS.err (m : MS) (a : Int) : Int := if m.has a then 0 else 1
def MS.put (m : MS) (a v : Int) : MS := if m.has a then ⟨m.c.set a.toNat v, m.n + 1⟩ else m
def MS.cas (m : MS) (a old v : Int) : MS := if m.at a = old then m.put a v else m.ask a
def MS.casB (m : MS) (a old : Int) : Bool := m.has a && decide (m.at a = old)
def MS.growOk (m : MS) (n : Int) : Bool := decide (0 ≤ n ∧ n ≤ 65536 - (m.c.length : Int))
def MS.growV (m : MS) (n : Int) : Int := if m.growOk n then m.c.length else 0
def MS.growE (m : MS) (n : Int) : Int := if m.growOk n then 0 else 7
def MS.grow (m : MS) (n : Int) : MS := if m.growOk n then ⟨m.c ++ List.replicate n.toNat 0, m.n⟩ else m

/-- the Mem at block p, its slice being v -/
structure MemAt (w : World) (p : Nat) (v : Value) (m : MS) : Prop where
  blk : w.heap[p]? = some (.cells #[v, .int .i64 m.n] 52 (0, 0))
  row : w.ownsRow 0 39 1 v m.c.length (m.c.map (Value.int .u64))
  sep : v.ownBlock ≠ some p
def MemAt.foot (p : Nat) (v : Value) : List Nat := p :: v.ownBlock.toList

theorem MemAt.form {w p v m} (h : MemAt w p v m) : ∃ s c, v = .slice s m.c.length c ∧ (∀ a, s = some a → ∃ g, a = ⟨g, 0, none⟩ ∧ g ≠ p) ∧ (0 < m.c.length → ∃ g, s = some ⟨g, 0, none⟩ ∧ g ≠ p) := by
  have hs := h.sep
  rcases ownsRow_form h.row with ⟨rfl, hn⟩ | ⟨g, c, rfl, _, _⟩
  · exact ⟨none, 0, by rw [hn], (by intro a h; cases h), (by intro h; omega)⟩
  · have hg : g ≠ p := by simpa [Value.ownBlock] using hs
    exact ⟨_, c, rfl, (by intro a h; cases h; exact ⟨g, rfl, hg⟩), fun _ => ⟨g, rfl, hg⟩⟩
theorem MemAt.keep {S w w' p v m} (h : MemAt w p v m) (hf : Fr S w w') (hp : p ∉ S) (hv : ∀ k, v.ownBlock = some k → k ∉ S) : MemAt w' p v m :=
  ⟨hf.keep h.blk hp, ownsRow_fr hf h.row hv, h.sep⟩

theorem len_any (w : World) (p : Nat) {v m} (h : MemAt w p v m) :
    Calls Try.prog 70 #[.pointer (some ⟨p, 0, none⟩)] w fun e w' => e = .returned (.int .i64 m.c.length) ∧ w = w' := by
  obtain ⟨s, c, rfl, _⟩ := h.form
  have c0 := cell_block h.blk 0
  simp at c0
  clear h
  go_enter Try.func70, Try.ntmps70
  go_wp2
  go_ret
  exact ⟨rfl, rfl⟩

theorem has_any (w : World) (p : Nat) (a : Int) {v m} (h : MemAt w p v m) (hl : m.c.length ≤ 65536) :
    Calls Try.prog 92 #[.pointer (some ⟨p, 0, none⟩), .int .i64 a] w fun e w' => e = .returned (.bool (m.has a)) ∧ w = w' := by
  by_cases h0 : 0 ≤ a
  · have hb : decide (0 ≤ a) = true := by simpa using h0
    have H := Lib.hid h
    clear h
    go_enter Try.func92, Try.ntmps92
    go_wp2_with (go_at_call 70; refine (len_any _ _ H.out).mono ?_; rintro e w' ⟨rfl, rfl⟩)
    go_ret
    refine ⟨?_, rfl⟩
    simp [MS.has, h0]
  · have hb : decide (0 ≤ a) = false := by simpa using h0
    clear h
    go_enter Try.func92, Try.ntmps92
    go_wp2
    go_ret
    refine ⟨?_, rfl⟩
    simp [MS.has]; omega

theorem ask_any (w : World) (p : Nat) (a : Int) {v m} (h : MemAt w p v m) (hl : m.c.length ≤ 65536) (hn : m.n ≤ 1000000000000) :
    Calls Try.prog 84 #[.pointer (some ⟨p, 0, none⟩), .int .i64 a] w fun e w' => e = .returned (.bool (m.has a)) ∧ MemAt w' p v (m.ask a) ∧ Fr [p] w w' := by
  by_cases hh : m.has a = true
  · obtain ⟨s, c, rfl, _⟩ := h.form
    have c1 := cell_block h.blk 1
    have f1 := free_block h.blk 1
    simp at c1
    have H := Lib.hid h
    have HH := Lib.hid hh
    have ha := has_any w p a h hl
    rw [hh] at ha
    have HA := Lib.hid ha
    clear h hh ha
    go_enter Try.func84, Try.ntmps84
    go_wp2_with (go_at_call 92; refine HA.out.mono ?_; rintro e w' ⟨rfl, rfl⟩)
    go_ret
    refine ⟨by rw [HH.out]; rfl, ?_, (Fr.refl _ _).setCell (Or.inl (by simp)) _⟩
    have h := H.out
    rw [MS.ask, HH.out, if_pos rfl]
    refine ⟨?_, ?_, h.sep⟩
    · have := set_block h.blk 1 (.int .i64 ((m.n : Int) + 1))
      simpa using this
    · exact ownsRow_setCell_other h.row (a := ⟨p, 1, none⟩) h.sep _
  · have hh : m.has a = false := by simpa using hh
    have H := Lib.hid h
    have HH := Lib.hid hh
    have ha := has_any w p a h hl
    rw [hh] at ha
    have HA := Lib.hid ha
    clear h hh ha
    go_enter Try.func84, Try.ntmps84
    go_wp2_with (go_at_call 92; refine HA.out.mono ?_; rintro e w' ⟨rfl, rfl⟩)
    go_ret
    refine ⟨by rw [HH.out]; rfl, ?_, Fr.refl _ _⟩
    rw [MS.ask, HH.out, if_neg (by simp)]
    exact H.out


theorem MemAt.cell {w p v m} (h : MemAt w p v m) (k : Nat) (hk : k < m.c.length) : ∃ g c y, v = .slice (some ⟨g, 0, none⟩) m.c.length c ∧ y = m.c.getD k 0 ∧ w.cell? ⟨p, 0, none⟩ = some (.slice (some ⟨g, 0, none⟩) m.c.length c) ∧
    w.cell? ⟨g, k, none⟩ = some (.int .u64 y) ∧ w.frozen? ⟨g, k, none⟩ = false := by
  have hs := h.sep
  rcases ownsRow_form h.row with ⟨_, hn⟩ | ⟨g, c, rfl, _, _⟩
  · omega
  · have c0 := cell_block h.blk 0
    obtain ⟨c1, f1⟩ := ownsRow_cell h.row k hk
    refine ⟨g, c, m.c.getD k 0, rfl, rfl, by simpa using c0, ?_, f1⟩
    rw [c1, List.getD_eq_getElem?_getD, List.getD_eq_getElem?_getD, List.getElem?_map, List.getElem?_eq_getElem hk]; rfl
theorem MS.has_true {m : MS} {a : Int} (h : m.has a = true) : ∃ k : Nat, a = k ∧ k < m.c.length := by
  have := of_decide_eq_true h
  exact ⟨a.toNat, by omega, by omega⟩
theorem MemAt.stored {w p v m} (h : MemAt w p v m) (k : Nat) (hk : k < m.c.length) {g c : Nat} (hv : v = .slice (some ⟨g, 0, none⟩) m.c.length c) (x : Int) :
    MemAt (w.setCell ⟨g, k, none⟩ (.int .u64 x)) p v ⟨m.c.set k x, m.n⟩ := by
  subst hv
  have hg : g ≠ p := by simpa [Value.ownBlock] using h.sep
  refine ⟨set_other h.blk hg.symm _ _, ?_, h.sep⟩
  have := ownsRow_set h.row k hk (.int .u64 x)
  simpa [List.map_set] using this

theorem load_any (w : World) (p : Nat) (a : Int) {v m} (h : MemAt w p v m) (hl : m.c.length ≤ 65536) (hn : m.n ≤ 1000000000000) :
    Calls Try.prog 83 #[.pointer (some ⟨p, 0, none⟩), .int .i64 a] w fun e w' => e = .returned (.tuple #[.int .u64 (m.at a), .int .i64 (m.err a)]) ∧ MemAt w' p v (m.ask a) ∧ Fr [p] w w' := by
  have HK := Lib.hid (ask_any w p a h hl hn)
  by_cases hh : m.has a = true
  · obtain ⟨k, rfl, hk⟩ := MS.has_true hh
    have HH := Lib.hid hh
    clear h hh
    go_enter Try.func83, Try.ntmps83
    go_wp2_with (go_at_call 84; with_reducible refine HK.out.mono ?_; rintro e w1 ⟨rfl, h1, hf⟩; rw [HH.out]; rw [MS.ask, HH.out, if_pos rfl] at h1; obtain ⟨g, c, y, hv, hy, c0, c1, _⟩ := h1.cell k hk; have H1 := Lib.hid h1; have HV := Lib.hid hv; have HY := Lib.hid hy; clear h1 hv hy)
    go_ret2
    exact ⟨by simp [MS.at, MS.err, HH.out, HY.out], by rw [MS.ask, HH.out, if_pos rfl]; exact H1.out, hf⟩
  · have hh : m.has a = false := by simpa using hh
    have HH := Lib.hid hh
    clear h hh
    go_enter Try.func83, Try.ntmps83
    go_wp2_with (go_at_call 84; with_reducible refine HK.out.mono ?_; rintro e w1 ⟨rfl, h1, hf⟩; rw [HH.out])
    go_ret2
    exact ⟨by simp [MS.at, MS.err, HH.out], h1, hf⟩


theorem MemAt.inOwn {p : Nat} {v : Value} {g n c : Nat} (hv : v = .slice (some ⟨g, 0, none⟩) n c) : g ∈ MemAt.foot p v := by
  subst hv; simp [MemAt.foot, Value.ownBlock]
theorem MemAt.p_in (p : Nat) (v : Value) : ∀ k ∈ [p], k ∈ MemAt.foot p v := by simp [MemAt.foot]

theorem cas_any (w : World) (p : Nat) (a old x : Int) {v m} (h : MemAt w p v m) (hl : m.c.length ≤ 65536) (hn : m.n ≤ 1000000000000) :
    Calls Try.prog 72 #[.pointer (some ⟨p, 0, none⟩), .int .i64 a, .int .u64 old, .int .u64 x] w fun e w' => e = .returned (.tuple #[.int .u64 (m.at a), .bool (m.casB a old)]) ∧ MemAt w' p v (m.cas a old x) ∧ Fr (MemAt.foot p v) w w' := by
  have HK := Lib.hid (ask_any w p a h hl hn)
  by_cases hh : m.has a = true
  · obtain ⟨k, rfl, hk⟩ := MS.has_true hh
    have HH := Lib.hid hh
    have hat : m.at k = m.c.getD k 0 := by simp [MS.at, hh]
    have HAT := Lib.hid hat
    clear h hh hat
    by_cases ho : m.c.getD k 0 = old
    · have HO := Lib.hid ho
      clear ho
      go_enter Try.func72, Try.ntmps72
      go_wp2_with (go_at_call 84; with_reducible refine HK.out.mono ?_; rintro e w1 ⟨rfl, h1, hf⟩; rw [MS.ask, HH.out, if_pos rfl] at h1; rw [HH.out]; obtain ⟨g, c, y, hv, hy, c0, c1, c2⟩ := h1.cell k hk; have H1 := Lib.hid h1; have HV := Lib.hid hv; have HY := Lib.hid hy; have hb : (y != old) = false := (by rw [hy, HO.out]; simp); clear h1 hv hy)
      go_ret2
      refine ⟨?_, ?_, (hf.mono (fun k hk => Or.inl (MemAt.p_in p v k hk))).setCell (Or.inl (MemAt.inOwn HV.out)) _⟩
      · rw [MS.casB, HH.out, HAT.out, HO.out]; simpa [HY.out] using HO.out
      · have := H1.out.stored k hk HV.out x
        rw [MS.cas, HAT.out, if_pos HO.out, MS.put, HH.out, if_pos rfl]
        simpa using this
    · have HO := Lib.hid ho
      clear ho
      go_enter Try.func72, Try.ntmps72
      go_wp2_with (go_at_call 84; with_reducible refine HK.out.mono ?_; rintro e w1 ⟨rfl, h1, hf⟩; rw [MS.ask, HH.out, if_pos rfl] at h1; rw [HH.out]; obtain ⟨g, c, y, hv, hy, c0, c1, c2⟩ := h1.cell k hk; have H1 := Lib.hid h1; have HV := Lib.hid hv; have HY := Lib.hid hy; have hb : (y != old) = true := (by rw [hy]; exact bne_iff_ne.2 HO.out); clear h1 hv hy)
      go_ret2
      refine ⟨?_, ?_, hf.mono (fun k hk => Or.inl (MemAt.p_in p v k hk))⟩
      · rw [MS.casB, HH.out, HAT.out, decide_eq_false HO.out]; simp [HY.out]
      · rw [MS.cas, HAT.out, if_neg HO.out, MS.ask, HH.out, if_pos rfl]
        exact H1.out
  · have hh : m.has a = false := by simpa using hh
    have HH := Lib.hid hh
    clear h hh
    go_enter Try.func72, Try.ntmps72
    go_wp2_with (go_at_call 84; with_reducible refine HK.out.mono ?_; rintro e w1 ⟨rfl, h1, hf⟩; rw [HH.out]; have H1 := Lib.hid h1; clear h1)
    go_ret2
    refine ⟨by simp [MS.casB, MS.at, HH.out], ?_, hf.mono (fun k hk => Or.inl (MemAt.p_in p v k hk))⟩
    have h1 := H1.out
    rw [MS.ask, HH.out, if_neg (by simp)] at h1
    unfold MS.cas MS.put MS.ask
    rw [HH.out]
    simpa using h1

theorem u64_slice : Try.prog.underlying 50 = some (.slice 39) := Try.underlying50
theorem u64_info : (Try.prog.info? 39).map (fun i => (i.zero, i.size, i.bytes)) = some (some (.int .u64 0), 1, 8) := by kernel_rfl
/-- what Mem.add leaves, and Grow, too -/
def Grew (w : World) (p : Nat) (v : Value) (m' : MS) (w' : World) : Prop :=
  ∃ v', MemAt w' p v' m' ∧ Fr (MemAt.foot p v) w w' ∧ ∀ k, v'.ownBlock = some k → v.ownBlock = some k ∨ w.heap.size ≤ k
theorem u64_one (ys : List Int) : ∀ y ∈ ys.map (Value.int .u64), y.oneCell' = true := by
  intro y hy
  obtain ⟨x, _, rfl⟩ := List.mem_map.1 hy
  rfl

theorem addc_any (w : World) (p : Nat) {v m} (u : Value) (ys : List Int) (h : MemAt w p v m) (hu : w.ownsRow 0 39 1 u ys.length (ys.map (Value.int .u64))) (hl : m.c.length + ys.length ≤ 65536) :
    Calls Try.prog 41 #[.pointer (some ⟨p, 0, none⟩), u] w fun e w' => e = .returned (.tuple #[]) ∧ Grew w p v ⟨m.c ++ ys, m.n⟩ w' := by
  have c0 := cell_block h.blk 0
  have f0 := free_block h.blk 0
  simp at c0
  have H := Lib.hid h
  have HU := Lib.hid hu
  clear h hu
  go_enter Try.func41, Try.ntmps41
  go_wp2_with (at_builtin; refine wpList_append_fr rfl (.tmp 8) (.tmp 9) 50 39 (.int .u64 0) 1 8 rfl u64_slice u64_info rfl (by decide) v m.c.length _ rfl H.out.row u ys.length _ rfl HU.out (u64_one ys) (by unfold maxLen; omega) (by omega) ?grow)
  case grow =>
  intro v' w1 hown hfr hat
  clear c0 f0
  have h := H.out
  have hp : p ∉ v.ownBlock.toList := by simpa using h.sep
  have hb := hfr.keep h.blk hp
  have c0 := cell_block hb 0
  have f0 := free_block hb 0
  simp at c0
  have hown' : w1.ownsRow 0 39 1 v' (m.c ++ ys).length ((m.c ++ ys).map (Value.int .u64)) := by simpa using hown
  have hne : v'.ownBlock ≠ some p := by
    intro hk
    rcases hat p hk with h1 | h1
    · exact h.sep h1
    · have := lt_of_block h.blk; omega
  have hfin : ∀ s c, v' = .slice s (m.c ++ ys).length c → Grew w p v ⟨m.c ++ ys, m.n⟩ (w1.setCell ⟨p, 0, none⟩ v') := by
    rintro s c rfl
    refine ⟨_, ⟨by simpa using set_block hb 0 _, ownsRow_setCell_other hown' (a := ⟨p, 0, none⟩) hne _, hne⟩, ?_, ?_⟩
    · exact (hfr.mono (fun k hk => Or.inl (by simp only [MemAt.foot, List.mem_cons]; exact Or.inr hk))).setCell (Or.inl (by simp [MemAt.foot])) _
    · intro k hk
      rcases hat k hk with h1 | h1
      · exact Or.inl h1
      · exact Or.inr (by omega)
  have HF := Lib.hid hfin
  rcases ownsRow_form hown' with ⟨rfl, hn⟩ | ⟨g, c, rfl, _, _⟩
  · have HN := Lib.hid hn
    clear hfin hb hown hown' hn h hat hfr
    go_wp2
    go_end0
    exact ⟨rfl, HF.out _ _ (by rw [HN.out])⟩
  · clear hfin hb hown hown' h hat hfr
    go_wp2
    go_end0
    exact ⟨rfl, by have := HF.out _ _ rfl; rwa [List.length_append] at this⟩

theorem Grew.refl {w : World} {p : Nat} {v : Value} {m : MS} (h : MemAt w p v m) : Grew w p v m w := ⟨v, h, Fr.refl _ _, fun k hk => Or.inl hk⟩
theorem Grew.after {w w1 w' : World} {p : Nat} {v : Value} {m' : MS} (hf : Fr [] w w1) (h : Grew w1 p v m' w') (hv : ∀ k, v.ownBlock = some k → k < w.heap.size) : Grew w p v m' w' := by
  obtain ⟨v', h1, h2, h3⟩ := h
  refine ⟨v', h1, (hf.mono (by simp)).trans h2 (fun x hx => Or.inl hx), fun k hk => ?_⟩
  rcases h3 k hk with h | h
  · exact Or.inl h
  · exact Or.inr (Nat.le_trans hf.size h)
theorem MemAt.lt {w p v m} (h : MemAt w p v m) : ∀ k, v.ownBlock = some k → k < w.heap.size := fun k hk => (h.row.lt k hk).2

theorem grow_any (w : World) (p : Nat) (n : Int) {v m} (h : MemAt w p v m) (hl : m.c.length ≤ 65536) :
    Calls Try.prog 17 #[.pointer (some ⟨p, 0, none⟩), .int .i64 n] w fun e w' =>
      e = .returned (.tuple #[.int .i64 (m.growV n), .int .i64 (m.growE n)]) ∧ Grew w p v (m.grow n) w' := by
  obtain ⟨s, c, hv, _⟩ := h.form
  have c0 := cell_block h.blk 0
  simp only [hv] at c0
  simp at c0
  have H := Lib.hid h
  have HV := Lib.hid hv
  clear h hv
  by_cases hneg : n < 0
  · have hb : decide (n < 0) = true := by simpa using hneg
    have HG := Lib.hid (show m.growOk n = false by simp [MS.growOk]; omega)
    go_enter Try.func17, Try.ntmps17
    go_wp2
    go_ret2
    refine ⟨by rw [MS.growV, MS.growE, HG.out]; rfl, ?_⟩
    rw [MS.grow, HG.out]
    exact Grew.refl H.out
  · have hb : decide (n < 0) = false := by simpa using hneg
    obtain ⟨k, rfl⟩ := Int.eq_ofNat_of_zero_le (by omega : 0 ≤ n)
    by_cases hbig : 65536 - (m.c.length : Int) < k
    · have HG := Lib.hid (show m.growOk k = false by simp [MS.growOk]; omega)
      go_enter Try.func17, Try.ntmps17
      go_wp2
      go_ret2
      refine ⟨by rw [MS.growV, MS.growE, HG.out]; rfl, ?_⟩
      rw [MS.grow, HG.out]
      exact Grew.refl H.out
    · have HG := Lib.hid (show m.growOk k = true by simp [MS.growOk]; omega)
      go_enter Try.func17, Try.ntmps17
      go_wp2_with (at_make; refine wpList_make_fr rfl (.tmp 23) (.tmp 23) 50 39 (.int .u64 0) 8 rfl u64_slice u64_info rfl k rfl rfl (by omega) (by unfold maxLen; omega) ?mk)
      case mk =>
      intro w1 hr hf
      have h1 := H.out.keep hf (by simp) (by simp)
      have HA := Lib.hid (addc_any w1 p _ (List.replicate k 0) h1 (by simpa using hr) (by simp; omega))
      have HF := Lib.hid hf
      clear c0 hr hf h1
      go_wp2_with (go_at_call 41; with_reducible refine HA.out.mono ?_; rintro e w2 ⟨rfl, h2⟩; have H2 := Lib.hid h2; clear h2)
      go_ret2
      refine ⟨by rw [MS.growV, MS.growE, HG.out]; rfl, ?_⟩
      have := H2.out.after HF.out H.out.lt
      rw [MS.grow, HG.out, if_pos rfl]
      simpa using this

/-- New: a Mem of its own, in new blocks; or none. -/
def MadeMem (w : World) (n : Int) (e : Ending) (w' : World) : Prop :=
  if 0 ≤ n ∧ n ≤ 65536 then ∃ p v, e = .returned (.pointer (some ⟨p, 0, none⟩)) ∧ MemAt w' p v ⟨List.replicate n.toNat 0, 0⟩ ∧ Fr [] w w' ∧ w.heap.size ≤ p ∧ ∀ k, v.ownBlock = some k → w.heap.size ≤ k
  else e = .returned (.pointer none) ∧ Fr [] w w'

theorem new_any (w : World) (n : Int) : Calls Try.prog 6 #[.int .i64 n] w (MadeMem w n) := by
  have hnew : MemAt (w.alloc (.cells #[.slice none 0 0, .int .i64 0] 52)) w.heap.size (.slice none 0 0) ⟨[], 0⟩ :=
    ⟨new_block _ _, World.ownsRow_nil _ _ _ _, by simp [Value.ownBlock]⟩
  have HA := Lib.hid (grow_any _ _ n hnew (by simp))
  have hok : (MS.mk [] 0).growOk n = decide (0 ≤ n ∧ n ≤ 65536) := by simp [MS.growOk]
  have HO := Lib.hid hok
  clear hnew hok
  by_cases h : 0 ≤ n ∧ n ≤ 65536
  · have HH := Lib.hid h
    clear h
    go_enter Try.func6, Try.ntmps6
    go_wp2_with (go_at_call 17; with_reducible refine HA.out.mono ?_; rintro e w2 ⟨rfl, h2⟩; have H2 := Lib.hid h2; clear h2; rw [MS.growV, MS.growE, HO.out, decide_eq_true HH.out, if_pos rfl, if_pos rfl])
    go_ret
    obtain ⟨v', h1, h2, h3⟩ := H2.out
    rw [MS.grow, HO.out, decide_eq_true HH.out, if_pos rfl] at h1
    simp only [List.nil_append] at h1
    unfold MadeMem
    rw [if_pos HH.out]
    refine ⟨w.heap.size, v', rfl, h1, ?_, Nat.le_refl _, ?_⟩
    · exact ((Fr.refl [] w).alloc _).trans h2 (by simp [MemAt.foot, Value.ownBlock])
    · intro k hk
      rcases h3 k hk with h | h
      · simp [Value.ownBlock] at h
      · simp at h; omega
  · have HH := Lib.hid h
    clear h
    go_enter Try.func6, Try.ntmps6
    go_wp2_with (go_at_call 17; with_reducible refine HA.out.mono ?_; rintro e w2 ⟨rfl, h2⟩; have H2 := Lib.hid h2; clear h2; rw [MS.growV, MS.growE, HO.out, decide_eq_false HH.out, if_neg (by simp), if_neg (by simp)])
    go_ret
    obtain ⟨v', h1, h2, h3⟩ := H2.out
    unfold MadeMem
    rw [if_neg HH.out]
    exact ⟨rfl, ((Fr.refl [] w).alloc _).trans h2 (by simp [MemAt.foot, Value.ownBlock])⟩
end Go.Proofs.Ytmhiolhgofackaa
