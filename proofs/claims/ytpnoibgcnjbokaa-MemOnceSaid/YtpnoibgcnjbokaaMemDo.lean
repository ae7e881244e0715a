/- CONTRACT OF impostlaw01.do: a deed, of the cells and of the document's answers. -/
import Derived.Test.YtpnoibgcnjbokaaMemGrow
namespace Go.Proofs.Ytpnoibgcnjbokaa
open Go.RowKit
set_option linter.unusedVariables false
set_option linter.unusedSimpArgs false

def MS.deed (m : MS) (kind a old x : Int) : MS :=
  if kind = 1 then m.ask a else if kind = 2 then m.put a x else if kind = 3 then m.cas a old x else if kind = 4 then m.put a (IntKind.u64.wrap (m.at a + x)) else m.grow (if 40 < a then 40 else a)
/-- both stand apart -/
structure Both (w : World) (p : Nat) (mv xv : Value) (m : MS) (cs : List Int) : Prop where
  mem : MemAt w p mv m
  ref : Ref w xv cs
  apart : ∀ k, xv.ownBlock = some k → k ∉ MemAt.foot p mv
def DoPost (w : World) (p : Nat) (mv xv : Value) (m' : MS) (n : Nat) (k : Int) (e : Ending) (w' : World) : Prop :=
  ∃ mv' v' k' b cs', e = .returned (.tuple #[.agg #[v', .int .i64 k'], .bool b]) ∧ Both w' p mv' v' m' cs' ∧ cs'.length ≤ n + 40 ∧ (0 ≤ k' ∧ k' ≤ k + 1) ∧
    Fr (MemAt.foot p mv) w w' ∧ (∀ g, mv'.ownBlock = some g → mv.ownBlock = some g ∨ w.heap.size ≤ g) ∧ ∀ g, v'.ownBlock = some g → xv.ownBlock = some g ∨ w.heap.size ≤ g
theorem MemAt.foot_lt {w p v m} (h : MemAt w p v m) : ∀ k ∈ MemAt.foot p v, k < w.heap.size := by
  intro k hk
  simp only [MemAt.foot, List.mem_cons, Option.mem_toList] at hk
  rcases hk with rfl | hk
  · exact lt_of_block h.blk
  · exact h.lt k hk
/-- how the two calls of a deed make its post -/
theorem doPost {w w1 w2 w' : World} {p : Nat} {mv xv mv' v' : Value} {m m' : MS} {cs : List Int} {k k' : Int} {b : Bool} (h : Both w p mv xv m cs)
    (hm : MemAt w1 p mv' m') (hf : Fr (MemAt.foot p mv) w w1) (ho : ∀ g, mv'.ownBlock = some g → mv.ownBlock = some g ∨ w.heap.size ≤ g)
    (hr : RefOut w1 xv cs.length k v' k' w2) (hw' : Fr [w.heap.size + 1 + 1] w2 w') (hb : w.heap.size + 1 + 1 < w1.heap.size)
    (hv2 : ∀ g, mv'.ownBlock = some g → g ≠ w.heap.size + 1 + 1) :
    DoPost w p mv xv m' cs.length k (.returned (.tuple #[.agg #[v', .int .i64 k'], .bool b])) w' := by
  obtain ⟨⟨cs', hr1, hr2⟩, hr3, hr4, hr5⟩ := hr
  have hp := lt_of_block h.mem.blk
  have hxlt : ∀ g, xv.ownBlock = some g → g < w.heap.size := fun g hg => (h.ref.lt g hg).2
  have hv'2 : ∀ g, v'.ownBlock = some g → g ≠ w.heap.size + 1 + 1 := by
    intro g hg
    rcases hr5 g hg with h1 | h1
    · have := hxlt g h1; omega
    · omega
  refine ⟨mv', v', k', b, cs', rfl, ⟨(hm.keep hr4 (by simp) (by simp)).keep hw' (by simp; omega) (by intro g hg; simp; exact hv2 g hg), hr1.keep hw' (by intro g hg; simp; exact hv'2 g hg), ?_⟩, hr2, hr3, ?_, ho, fun g hg => or_keep (hr5 g hg) (fun h => Nat.le_trans hf.size h)⟩
  · intro g hg hmem
    simp only [MemAt.foot, List.mem_cons, Option.mem_toList] at hmem
    rcases hr5 g hg with h1 | h1
    · have hna := h.apart g h1
      have hlt := hxlt g h1
      rcases hmem with rfl | hmem
      · exact hna (by simp [MemAt.foot])
      · rcases ho g hmem with h2 | h2
        · exact hna (by simp [MemAt.foot, h2])
        · omega
    · rcases hmem with rfl | hmem
      · have := hf.size; omega
      · have := hm.lt g hmem; omega
  · exact (hf.trans hr4 (by simp)).trans hw' (by intro x hx; simp at hx; exact Or.inr (by omega))


set_option maxRecDepth 100000 in
theorem do1 (w : World) (p : Nat) (kind a old x k : Int) {mv xv : Value} {m : MS} {cs : List Int} (h : Both w p mv xv m cs) (hl : m.c.length ≤ 60000) (hn : m.n ≤ 1000000000) (hc : cs.length ≤ 50000) (hk : 0 ≤ k) (hk' : k ≤ 1000000000) (hkind : kind = 1) :
    Calls Try.prog 10 #[.pointer (some ⟨p, 0, none⟩), .agg #[xv, .int .i64 k], .agg #[.int .i64 kind, .int .i64 a, .int .u64 old, .int .u64 x]] w (DoPost w p mv xv (m.deed kind a old x) cs.length k) := by
  have HM' := Lib.hid (show m.deed kind a old x = m.ask a from by simp [MS.deed, hkind])
  have hb1 : (kind == 1) = true := by simp [hkind]
  have HK := Lib.hid hkind
  clear hkind
  have hf0 : Fr [] w (((w.alloc (.cells #[xv, .int .i64 k] 34)).alloc (.cells #[.int .i64 kind, .int .i64 a, .int .u64 old, .int .u64 x] 25)).alloc (.cells #[.slice none 0 0, .int .i64 0] 34)) :=
    (((Fr.refl [] w).alloc _).alloc _).alloc _
  have H := Lib.hid h
  have HM := Lib.hid (h.mem.keep hf0 (by simp) (by simp))
  have hv' : ∃ s c, xv = .slice s cs.length c := h.ref.form
  obtain ⟨s, c, rfl⟩ := hv'
  clear h hf0
  go_enter Try.func10, Try.ntmps10
  go_wp2_with (go_at_call 9; refine (load_any _ p a HM.out (by omega) (by omega)).mono ?_; rintro e w1 ⟨rfl, h1, h2⟩; have h2 := h2.mono (T := MemAt.foot p mv) (fun k hk => Or.inl (MemAt.p_in p mv k hk)); refine go_stop ?_)
  have hall := three_boxes (H.out.mem.foot_lt) h2
  obtain ⟨hA, hB, hC, hf⟩ := hall
  have HR := Lib.hid (H.out.ref.keep hf H.out.apart)
  have HF := Lib.hid hf
  have H1 := Lib.hid h1
  have HC := Lib.hid hC
  have hw1 : w.heap.size + 1 + 1 < w1.heap.size := lt_of_block hC
  have a0 := cell_block hA 0
  have a1 := cell_block hA 1
  have d0 := cell_block hB 0
  have d1 := cell_block hB 1
  have d2 := cell_block hB 2
  have d3 := cell_block hB 3
  simp at a0 a1 d0 d1 d2 d3
  clear h1 h2 hA hB hC hf
  unfold Stop
  go_wp2_with (go_at_call 19; refine (rload_any _ a k HR.out (by omega) hk (by omega)).mono ?_; rintro e w2 ⟨v', k', y, z, rfl, hro⟩; refine go_stop ?_)
  have hC2 := hro.2.2.1.keep HC.out (by simp)
  have r0 := cell_block hC2 0
  have r1 := cell_block hC2 1
  have e0 := free_block hC2 0
  have e1 := free_block hC2 1
  have hw2 : w.heap.size + 1 + 1 < w2.heap.size := Nat.lt_of_lt_of_le hw1 hro.2.2.1.size
  simp at r0 r1
  have hvf : ∃ s' n' c', v' = .slice s' n' c' := by
    obtain ⟨cs', hr, _⟩ := hro.1
    obtain ⟨s', c', hh⟩ := hr.form
    exact ⟨s', _, c', hh⟩
  obtain ⟨s', n', c', rfl⟩ := hvf
  have hfin : Hid (∀ b, DoPost w p mv (.slice s cs.length c) (m.deed kind a old x) cs.length k (.returned (.tuple #[.agg #[.slice s' n' c', .int .i64 k'], .bool b]))
      (((w2.setCell ⟨w.heap.size + 1 + 1, 0, none⟩ (.slice s' n' c')).setCell ⟨w.heap.size + 1 + 1, 1, none⟩ (.int .i64 k')).alloc (.cells #[.slice s' n' c', .int .i64 k'] 34))) := by
    intro b
    rw [HM'.out]
    exact doPost H.out H1.out HF.out (fun g hg => Or.inl hg) hro ((((Fr.refl [w.heap.size + 1 + 1] w2).setCell (Or.inl (by simp)) _).setCell (Or.inl (by simp)) _).alloc _) hw1 (fun g hg => by have := H.out.mem.lt g hg; omega)
  clear hro hC2 a0 a1 d0 d1 d2 d3
  unfold Stop
  go_wp2
  all_goals first
    | (refine bodyPost_ret (v := .tuple #[.agg #[.slice s' n' c', .int .i64 k'], .bool (m.err a == z)]) ?g1 rfl (hfin.out _); case g1 => (simp [results, Try.results10, go_sem, *]; done))
    | (refine bodyPost_ret (v := .tuple #[.agg #[.slice s' n' c', .int .i64 k'], .bool (false)]) ?g1 rfl (hfin.out _); case g1 => (simp [results, Try.results10, go_sem, *]; done))

set_option maxRecDepth 100000 in
theorem do2 (w : World) (p : Nat) (kind a old x k : Int) {mv xv : Value} {m : MS} {cs : List Int} (h : Both w p mv xv m cs) (hl : m.c.length ≤ 60000) (hn : m.n ≤ 1000000000) (hc : cs.length ≤ 50000) (hk : 0 ≤ k) (hk' : k ≤ 1000000000) (hkind : kind = 2) :
    Calls Try.prog 10 #[.pointer (some ⟨p, 0, none⟩), .agg #[xv, .int .i64 k], .agg #[.int .i64 kind, .int .i64 a, .int .u64 old, .int .u64 x]] w (DoPost w p mv xv (m.deed kind a old x) cs.length k) := by
  have HM' := Lib.hid (show m.deed kind a old x = m.put a x from by simp [MS.deed, hkind])
  have hb1 : (kind == 1) = false := by simp; omega
  have hb2 : (kind == 2) = true := by simp [hkind]
  have HK := Lib.hid hkind
  clear hkind
  have hf0 : Fr [] w (((w.alloc (.cells #[xv, .int .i64 k] 34)).alloc (.cells #[.int .i64 kind, .int .i64 a, .int .u64 old, .int .u64 x] 25)).alloc (.cells #[.slice none 0 0, .int .i64 0] 34)) :=
    (((Fr.refl [] w).alloc _).alloc _).alloc _
  have H := Lib.hid h
  have HM := Lib.hid (h.mem.keep hf0 (by simp) (by simp))
  have hv' : ∃ s c, xv = .slice s cs.length c := h.ref.form
  obtain ⟨s, c, rfl⟩ := hv'
  clear h hf0
  go_enter Try.func10, Try.ntmps10
  go_wp2_with (go_at_call 17; refine (store_any _ p a x HM.out (by omega) (by omega)).mono ?_; rintro e w1 ⟨rfl, h1, h2⟩; refine go_stop ?_)
  have hall := three_boxes (H.out.mem.foot_lt) h2
  obtain ⟨hA, hB, hC, hf⟩ := hall
  have HR := Lib.hid (H.out.ref.keep hf H.out.apart)
  have HF := Lib.hid hf
  have H1 := Lib.hid h1
  have HC := Lib.hid hC
  have hw1 : w.heap.size + 1 + 1 < w1.heap.size := lt_of_block hC
  have a0 := cell_block hA 0
  have a1 := cell_block hA 1
  have d0 := cell_block hB 0
  have d1 := cell_block hB 1
  have d2 := cell_block hB 2
  have d3 := cell_block hB 3
  simp at a0 a1 d0 d1 d2 d3
  clear h1 h2 hA hB hC hf
  unfold Stop
  go_wp2_with (go_at_call 20; refine (rstore_any _ a k x HR.out (by omega) hk (by omega)).mono ?_; rintro e w2 ⟨v', k', z, rfl, hro⟩; refine go_stop ?_)
  have hC2 := hro.2.2.1.keep HC.out (by simp)
  have r0 := cell_block hC2 0
  have r1 := cell_block hC2 1
  have e0 := free_block hC2 0
  have e1 := free_block hC2 1
  have hw2 : w.heap.size + 1 + 1 < w2.heap.size := Nat.lt_of_lt_of_le hw1 hro.2.2.1.size
  simp at r0 r1
  have hvf : ∃ s' n' c', v' = .slice s' n' c' := by
    obtain ⟨cs', hr, _⟩ := hro.1
    obtain ⟨s', c', hh⟩ := hr.form
    exact ⟨s', _, c', hh⟩
  obtain ⟨s', n', c', rfl⟩ := hvf
  have hfin : Hid (∀ b, DoPost w p mv (.slice s cs.length c) (m.deed kind a old x) cs.length k (.returned (.tuple #[.agg #[.slice s' n' c', .int .i64 k'], .bool b]))
      (((w2.setCell ⟨w.heap.size + 1 + 1, 0, none⟩ (.slice s' n' c')).setCell ⟨w.heap.size + 1 + 1, 1, none⟩ (.int .i64 k')).alloc (.cells #[.slice s' n' c', .int .i64 k'] 34))) := by
    intro b
    rw [HM'.out]
    exact doPost H.out H1.out HF.out (fun g hg => Or.inl hg) hro ((((Fr.refl [w.heap.size + 1 + 1] w2).setCell (Or.inl (by simp)) _).setCell (Or.inl (by simp)) _).alloc _) hw1 (fun g hg => by have := H.out.mem.lt g hg; omega)
  clear hro hC2 a0 a1 d0 d1 d2 d3
  unfold Stop
  go_wp2
  all_goals first
    | (refine bodyPost_ret (v := .tuple #[.agg #[.slice s' n' c', .int .i64 k'], .bool (m.err a == z)]) ?g1 rfl (hfin.out _); case g1 => (simp [results, Try.results10, go_sem, *]; done))
    | (refine bodyPost_ret (v := .tuple #[.agg #[.slice s' n' c', .int .i64 k'], .bool (false)]) ?g1 rfl (hfin.out _); case g1 => (simp [results, Try.results10, go_sem, *]; done))

set_option maxRecDepth 100000 in
theorem do3 (w : World) (p : Nat) (kind a old x k : Int) {mv xv : Value} {m : MS} {cs : List Int} (h : Both w p mv xv m cs) (hl : m.c.length ≤ 60000) (hn : m.n ≤ 1000000000) (hc : cs.length ≤ 50000) (hk : 0 ≤ k) (hk' : k ≤ 1000000000) (hkind : kind = 3) :
    Calls Try.prog 10 #[.pointer (some ⟨p, 0, none⟩), .agg #[xv, .int .i64 k], .agg #[.int .i64 kind, .int .i64 a, .int .u64 old, .int .u64 x]] w (DoPost w p mv xv (m.deed kind a old x) cs.length k) := by
  have HM' := Lib.hid (show m.deed kind a old x = m.cas a old x from by simp [MS.deed, hkind])
  have hb1 : (kind == 1) = false := by simp; omega
  have hb2 : (kind == 2) = false := by simp; omega
  have hb3 : (kind == 3) = true := by simp [hkind]
  have HK := Lib.hid hkind
  clear hkind
  have hf0 : Fr [] w (((w.alloc (.cells #[xv, .int .i64 k] 34)).alloc (.cells #[.int .i64 kind, .int .i64 a, .int .u64 old, .int .u64 x] 25)).alloc (.cells #[.slice none 0 0, .int .i64 0] 34)) :=
    (((Fr.refl [] w).alloc _).alloc _).alloc _
  have H := Lib.hid h
  have HM := Lib.hid (h.mem.keep hf0 (by simp) (by simp))
  have hv' : ∃ s c, xv = .slice s cs.length c := h.ref.form
  obtain ⟨s, c, rfl⟩ := hv'
  clear h hf0
  go_enter Try.func10, Try.ntmps10
  go_wp2_with (go_at_call 11; refine (cas_any _ p a old x HM.out (by omega) (by omega)).mono ?_; rintro e w1 ⟨rfl, h1, h2⟩; refine go_stop ?_)
  have hall := three_boxes (H.out.mem.foot_lt) h2
  obtain ⟨hA, hB, hC, hf⟩ := hall
  have HR := Lib.hid (H.out.ref.keep hf H.out.apart)
  have HF := Lib.hid hf
  have H1 := Lib.hid h1
  have HC := Lib.hid hC
  have hw1 : w.heap.size + 1 + 1 < w1.heap.size := lt_of_block hC
  have a0 := cell_block hA 0
  have a1 := cell_block hA 1
  have d0 := cell_block hB 0
  have d1 := cell_block hB 1
  have d2 := cell_block hB 2
  have d3 := cell_block hB 3
  simp at a0 a1 d0 d1 d2 d3
  clear h1 h2 hA hB hC hf
  unfold Stop
  go_wp2_with (go_at_call 21; refine (rcas_any _ a k old x HR.out (by omega) hk (by omega)).mono ?_; rintro e w2 ⟨v', k', y, z, rfl, hro⟩; refine go_stop ?_)
  have hC2 := hro.2.2.1.keep HC.out (by simp)
  have r0 := cell_block hC2 0
  have r1 := cell_block hC2 1
  have e0 := free_block hC2 0
  have e1 := free_block hC2 1
  have hw2 : w.heap.size + 1 + 1 < w2.heap.size := Nat.lt_of_lt_of_le hw1 hro.2.2.1.size
  simp at r0 r1
  have hvf : ∃ s' n' c', v' = .slice s' n' c' := by
    obtain ⟨cs', hr, _⟩ := hro.1
    obtain ⟨s', c', hh⟩ := hr.form
    exact ⟨s', _, c', hh⟩
  obtain ⟨s', n', c', rfl⟩ := hvf
  have hfin : Hid (∀ b, DoPost w p mv (.slice s cs.length c) (m.deed kind a old x) cs.length k (.returned (.tuple #[.agg #[.slice s' n' c', .int .i64 k'], .bool b]))
      (((w2.setCell ⟨w.heap.size + 1 + 1, 0, none⟩ (.slice s' n' c')).setCell ⟨w.heap.size + 1 + 1, 1, none⟩ (.int .i64 k')).alloc (.cells #[.slice s' n' c', .int .i64 k'] 34))) := by
    intro b
    rw [HM'.out]
    exact doPost H.out H1.out HF.out (fun g hg => Or.inl hg) hro ((((Fr.refl [w.heap.size + 1 + 1] w2).setCell (Or.inl (by simp)) _).setCell (Or.inl (by simp)) _).alloc _) hw1 (fun g hg => by have := H.out.mem.lt g hg; omega)
  clear hro hC2 a0 a1 d0 d1 d2 d3
  unfold Stop
  go_wp2
  all_goals first
    | (refine bodyPost_ret (v := .tuple #[.agg #[.slice s' n' c', .int .i64 k'], .bool (m.casB a old == z)]) ?g1 rfl (hfin.out _); case g1 => (simp [results, Try.results10, go_sem, *]; done))
    | (refine bodyPost_ret (v := .tuple #[.agg #[.slice s' n' c', .int .i64 k'], .bool (false)]) ?g1 rfl (hfin.out _); case g1 => (simp [results, Try.results10, go_sem, *]; done))

set_option maxRecDepth 100000 in
theorem do4 (w : World) (p : Nat) (kind a old x k : Int) {mv xv : Value} {m : MS} {cs : List Int} (h : Both w p mv xv m cs) (hl : m.c.length ≤ 60000) (hn : m.n ≤ 1000000000) (hc : cs.length ≤ 50000) (hk : 0 ≤ k) (hk' : k ≤ 1000000000) (hkind : kind = 4) :
    Calls Try.prog 10 #[.pointer (some ⟨p, 0, none⟩), .agg #[xv, .int .i64 k], .agg #[.int .i64 kind, .int .i64 a, .int .u64 old, .int .u64 x]] w (DoPost w p mv xv (m.deed kind a old x) cs.length k) := by
  have HM' := Lib.hid (show m.deed kind a old x = m.put a (IntKind.u64.wrap (m.at a + x)) from by simp [MS.deed, hkind])
  have hb1 : (kind == 1) = false := by simp; omega
  have hb2 : (kind == 2) = false := by simp; omega
  have hb3 : (kind == 3) = false := by simp; omega
  have hb4 : (kind == 4) = true := by simp [hkind]
  have HK := Lib.hid hkind
  clear hkind
  have hf0 : Fr [] w (((w.alloc (.cells #[xv, .int .i64 k] 34)).alloc (.cells #[.int .i64 kind, .int .i64 a, .int .u64 old, .int .u64 x] 25)).alloc (.cells #[.slice none 0 0, .int .i64 0] 34)) :=
    (((Fr.refl [] w).alloc _).alloc _).alloc _
  have H := Lib.hid h
  have HM := Lib.hid (h.mem.keep hf0 (by simp) (by simp))
  have hv' : ∃ s c, xv = .slice s cs.length c := h.ref.form
  obtain ⟨s, c, rfl⟩ := hv'
  clear h hf0
  go_enter Try.func10, Try.ntmps10
  go_wp2_with (go_at_call 16; refine (add_any _ p a x HM.out (by omega) (by omega)).mono ?_; rintro e w1 ⟨rfl, h1, h2⟩; refine go_stop ?_)
  have hall := three_boxes (H.out.mem.foot_lt) h2
  obtain ⟨hA, hB, hC, hf⟩ := hall
  have HR := Lib.hid (H.out.ref.keep hf H.out.apart)
  have HF := Lib.hid hf
  have H1 := Lib.hid h1
  have HC := Lib.hid hC
  have hw1 : w.heap.size + 1 + 1 < w1.heap.size := lt_of_block hC
  have a0 := cell_block hA 0
  have a1 := cell_block hA 1
  have d0 := cell_block hB 0
  have d1 := cell_block hB 1
  have d2 := cell_block hB 2
  have d3 := cell_block hB 3
  simp at a0 a1 d0 d1 d2 d3
  clear h1 h2 hA hB hC hf
  unfold Stop
  go_wp2_with (go_at_call 22; refine (radd_any _ a k x HR.out (by omega) hk (by omega)).mono ?_; rintro e w2 ⟨v', k', y, z, rfl, hro⟩; refine go_stop ?_)
  have hC2 := hro.2.2.1.keep HC.out (by simp)
  have r0 := cell_block hC2 0
  have r1 := cell_block hC2 1
  have e0 := free_block hC2 0
  have e1 := free_block hC2 1
  have hw2 : w.heap.size + 1 + 1 < w2.heap.size := Nat.lt_of_lt_of_le hw1 hro.2.2.1.size
  simp at r0 r1
  have hvf : ∃ s' n' c', v' = .slice s' n' c' := by
    obtain ⟨cs', hr, _⟩ := hro.1
    obtain ⟨s', c', hh⟩ := hr.form
    exact ⟨s', _, c', hh⟩
  obtain ⟨s', n', c', rfl⟩ := hvf
  have hfin : Hid (∀ b, DoPost w p mv (.slice s cs.length c) (m.deed kind a old x) cs.length k (.returned (.tuple #[.agg #[.slice s' n' c', .int .i64 k'], .bool b]))
      (((w2.setCell ⟨w.heap.size + 1 + 1, 0, none⟩ (.slice s' n' c')).setCell ⟨w.heap.size + 1 + 1, 1, none⟩ (.int .i64 k')).alloc (.cells #[.slice s' n' c', .int .i64 k'] 34))) := by
    intro b
    rw [HM'.out]
    exact doPost H.out H1.out HF.out (fun g hg => Or.inl hg) hro ((((Fr.refl [w.heap.size + 1 + 1] w2).setCell (Or.inl (by simp)) _).setCell (Or.inl (by simp)) _).alloc _) hw1 (fun g hg => by have := H.out.mem.lt g hg; omega)
  clear hro hC2 a0 a1 d0 d1 d2 d3
  unfold Stop
  go_wp2
  all_goals first
    | (refine bodyPost_ret (v := .tuple #[.agg #[.slice s' n' c', .int .i64 k'], .bool (m.err a == z)]) ?g1 rfl (hfin.out _); case g1 => (simp [results, Try.results10, go_sem, *]; done))
    | (refine bodyPost_ret (v := .tuple #[.agg #[.slice s' n' c', .int .i64 k'], .bool (false)]) ?g1 rfl (hfin.out _); case g1 => (simp [results, Try.results10, go_sem, *]; done))
set_option maxRecDepth 100000 in
theorem do5 (w : World) (p : Nat) (kind a old x k : Int) {mv xv : Value} {m : MS} {cs : List Int} (h : Both w p mv xv m cs) (hl : m.c.length ≤ 60000) (hn : m.n ≤ 1000000000) (hc : cs.length ≤ 50000) (hk : 0 ≤ k) (hk' : k ≤ 1000000000) (hkind : kind ≠ 1 ∧ kind ≠ 2 ∧ kind ≠ 3 ∧ kind ≠ 4) :
    Calls Try.prog 10 #[.pointer (some ⟨p, 0, none⟩), .agg #[xv, .int .i64 k], .agg #[.int .i64 kind, .int .i64 a, .int .u64 old, .int .u64 x]] w (DoPost w p mv xv (m.deed kind a old x) cs.length k) := by
  have HM' := Lib.hid (show m.deed kind a old x = m.grow (if 40 < a then 40 else a) from by simp [MS.deed, hkind.1, hkind.2.1, hkind.2.2.1, hkind.2.2.2])
  have hb1 : (kind == 1) = false := by simp; exact hkind.1
  have hb2 : (kind == 2) = false := by simp; omega
  have hb3 : (kind == 3) = false := by simp; omega
  have hb4 : (kind == 4) = false := by simp; omega
  have HK := Lib.hid hkind
  clear hkind
  have hf0 : Fr [] w (((w.alloc (.cells #[xv, .int .i64 k] 34)).alloc (.cells #[.int .i64 kind, .int .i64 a, .int .u64 old, .int .u64 x] 25)).alloc (.cells #[.slice none 0 0, .int .i64 0] 34)) :=
    (((Fr.refl [] w).alloc _).alloc _).alloc _
  have H := Lib.hid h
  have HM := Lib.hid (h.mem.keep hf0 (by simp) (by simp))
  have hv' : ∃ s c, xv = .slice s cs.length c := h.ref.form
  obtain ⟨s, c, rfl⟩ := hv'
  clear h hf0
  go_enter Try.func10, Try.ntmps10
  go_wp2_with (go_at_call 23; obtain ⟨q, hq⟩ : ∃ q : Int, q = (if 40 < a then 40 else a) := ⟨_, rfl⟩; rw [← hq]; have hq40 : q ≤ 40 := (by rw [hq]; split <;> omega); have HQ := Lib.hid hq; clear hq; refine (grow_any _ p _ HM.out (by omega)).mono ?_; rintro e w1 ⟨rfl, mv', h1, h2, ho⟩; refine go_stop ?_)
  have hall := three_boxes (H.out.mem.foot_lt) h2
  obtain ⟨hA, hB, hC, hf⟩ := hall
  have HR := Lib.hid (H.out.ref.keep hf H.out.apart)
  have HF := Lib.hid hf
  have HOW := Lib.hid ho
  clear ho
  have H1 := Lib.hid h1
  have HC := Lib.hid hC
  have hw1 : w.heap.size + 1 + 1 < w1.heap.size := lt_of_block hC
  have a0 := cell_block hA 0
  have a1 := cell_block hA 1
  have d0 := cell_block hB 0
  have d1 := cell_block hB 1
  have d2 := cell_block hB 2
  have d3 := cell_block hB 3
  simp at a0 a1 d0 d1 d2 d3
  clear h1 h2 hA hB hC hf
  unfold Stop
  go_wp2_with (go_at_call 24; refine (rgrow_any _ _ k HR.out (by omega) hk (by omega) (by omega)).mono ?_; rintro e w2 ⟨v', k', y, z, rfl, hro⟩; refine go_stop ?_)
  have hC2 := hro.2.2.1.keep HC.out (by simp)
  have r0 := cell_block hC2 0
  have r1 := cell_block hC2 1
  have e0 := free_block hC2 0
  have e1 := free_block hC2 1
  have hw2 : w.heap.size + 1 + 1 < w2.heap.size := Nat.lt_of_lt_of_le hw1 hro.2.2.1.size
  simp at r0 r1
  have hvf : ∃ s' n' c', v' = .slice s' n' c' := by
    obtain ⟨cs', hr, _⟩ := hro.1
    obtain ⟨s', c', hh⟩ := hr.form
    exact ⟨s', _, c', hh⟩
  obtain ⟨s', n', c', rfl⟩ := hvf
  have hfin : Hid (∀ b, DoPost w p mv (.slice s cs.length c) (m.deed kind a old x) cs.length k (.returned (.tuple #[.agg #[.slice s' n' c', .int .i64 k'], .bool b]))
      (((w2.setCell ⟨w.heap.size + 1 + 1, 0, none⟩ (.slice s' n' c')).setCell ⟨w.heap.size + 1 + 1, 1, none⟩ (.int .i64 k')).alloc (.cells #[.slice s' n' c', .int .i64 k'] 34))) := by
    intro b
    rw [HM'.out, ← HQ.out]
    exact doPost H.out H1.out HF.out (fun g hg => or_keep (HOW.out g hg) (fun h => by simp at h; omega)) hro ((((Fr.refl [w.heap.size + 1 + 1] w2).setCell (Or.inl (by simp)) _).setCell (Or.inl (by simp)) _).alloc _) hw1 (fun g hg => by rcases HOW.out g hg with h | h; (· have := H.out.mem.lt g h; omega); (· simp at h; omega))
  clear hro hC2 a0 a1 d0 d1 d2 d3
  unfold Stop
  go_wp2
  all_goals first
    | (refine bodyPost_ret (v := .tuple #[.agg #[.slice s' n' c', .int .i64 k'], .bool (m.growE q == z)]) ?g1 rfl (hfin.out _); case g1 => (simp [results, Try.results10, go_sem, *]; done))
    | (refine bodyPost_ret (v := .tuple #[.agg #[.slice s' n' c', .int .i64 k'], .bool (false)]) ?g1 rfl (hfin.out _); case g1 => (simp [results, Try.results10, go_sem, *]; done))
end Go.Proofs.Ytpnoibgcnjbokaa
