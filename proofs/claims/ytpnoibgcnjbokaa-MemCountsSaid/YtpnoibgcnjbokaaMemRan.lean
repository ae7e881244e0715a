/- CONTRACT OF impostlaw01.ran: cells behind deeds. -/
import Derived.Test.YtpnoibgcnjbokaaMemDo
namespace Go.Proofs.Ytpnoibgcnjbokaa
open Go.RowKit
set_option linter.unusedVariables false
set_option linter.unusedSimpArgs false

theorem do_any (w : World) (p : Nat) (kind a old x k : Int) {mv xv : Value} {m : MS} {cs : List Int} (h : Both w p mv xv m cs) (hl : m.c.length ≤ 60000) (hn : m.n ≤ 1000000000) (hc : cs.length ≤ 50000) (hk : 0 ≤ k) (hk' : k ≤ 1000000000) :
    Calls Try.prog 10 #[.pointer (some ⟨p, 0, none⟩), .agg #[xv, .int .i64 k], .agg #[.int .i64 kind, .int .i64 a, .int .u64 old, .int .u64 x]] w (DoPost w p mv xv (m.deed kind a old x) cs.length k) := by
  by_cases h1 : kind = 1
  · exact do1 w p kind a old x k h hl hn hc hk hk' h1
  by_cases h2 : kind = 2
  · exact do2 w p kind a old x k h hl hn hc hk hk' h2
  by_cases h3 : kind = 3
  · exact do3 w p kind a old x k h hl hn hc hk hk' h3
  by_cases h4 : kind = 4
  · exact do4 w p kind a old x k h hl hn hc hk hk' h4
  exact do5 w p kind a old x k h hl hn hc hk hk' ⟨h1, h2, h3, h4⟩

theorem MS.put_len (m : MS) (a x : Int) : (m.put a x).c.length = m.c.length := by unfold MS.put; split <;> simp
theorem MS.ask_len (m : MS) (a : Int) : (m.ask a).c.length = m.c.length := by unfold MS.ask; split <;> rfl
theorem MS.put_n (m : MS) (a x : Int) : (m.put a x).n ≤ m.n + 1 := by unfold MS.put; split <;> simp
theorem MS.ask_n (m : MS) (a : Int) : (m.ask a).n ≤ m.n + 1 := by unfold MS.ask; split <;> simp
theorem MS.grow_len (m : MS) (n : Int) (hn : n ≤ 40) : m.c.length ≤ (m.grow n).c.length ∧ (m.grow n).c.length ≤ m.c.length + 40 ∧ (m.grow n).n = m.n := by
  unfold MS.grow
  split
  · simp; omega
  · simp
theorem MS.deed_len (m : MS) (kind a old x : Int) : m.c.length ≤ (m.deed kind a old x).c.length ∧ (m.deed kind a old x).c.length ≤ m.c.length + 40 ∧ (m.deed kind a old x).n ≤ m.n + 1 := by
  have h1 := m.ask_len a
  have h2 := m.ask_n a
  have h3 := m.put_len a
  have h4 := m.put_n a
  unfold MS.deed
  split
  · omega
  split
  · have := h3 x; have := h4 x; omega
  split
  · unfold MS.cas
    split
    · have := h3 x; have := h4 x; omega
    · omega
  split
  · have := h3 (IntKind.u64.wrap (m.at a + x)); have := h4 (IntKind.u64.wrap (m.at a + x)); omega
  · have := m.grow_len (if 40 < a then 40 else a) (by split <;> omega)
    omega

/-- what is told of deeds that came in -/
def IsDeeds (w : World) (a : Option Addr) (len cap : Nat) : Prop :=
  len ≤ cap ∧ cap ≤ maxLen ∧ (0 < len → ∃ b off, a = some ⟨b, off, none⟩ ∧ b < w.heap.size ∧ ∀ i, i < len → ∃ kind x old v : Int, w.cell? ⟨b, off + i * 4, none⟩ = some (.int .i64 kind) ∧ w.cell? ⟨b, off + i * 4 + 1, none⟩ = some (.int .i64 x) ∧
    w.cell? ⟨b, off + i * 4 + 2, none⟩ = some (.int .u64 old) ∧ w.cell? ⟨b, off + i * 4 + 3, none⟩ = some (.int .u64 v))
theorem IsDeeds.keep {w w' : World} {a : Option Addr} {len cap : Nat} (h : IsDeeds w a len cap) (hf : Fr [] w w') : IsDeeds w' a len cap := by
  obtain ⟨h1, h2, h3⟩ := h
  refine ⟨h1, h2, fun hl => ?_⟩
  obtain ⟨b, off, ha, hb, hc⟩ := h3 hl
  refine ⟨b, off, ha, Nat.lt_of_lt_of_le hb hf.size, fun i hi => ?_⟩
  obtain ⟨kind, x, old, v, c0, c1, c2, c3⟩ := hc i hi
  exact ⟨kind, x, old, v, hf.cell c0 (by simp), hf.cell c1 (by simp), hf.cell c2 (by simp), hf.cell c3 (by simp)⟩

/-- a Mem of one's own, of at least 8 cells -/
def RanPost (w : World) (e : Ending) (w' : World) : Prop :=
  ∃ p v m, e = .returned (.pointer (some ⟨p, 0, none⟩)) ∧ MemAt w' p v m ∧ Fr [] w w' ∧ (∀ k ∈ MemAt.foot p v, w.heap.size ≤ k) ∧ 8 ≤ m.c.length ∧ m.c.length ≤ 5000 ∧ m.n ≤ 100

structure RanRel (w : World) (p X j : Nat) (wr : World) : Prop where
  ex : ∃ mv xv m cs k, Both wr p mv xv m cs ∧ wr.heap[X]? = some (.cells #[xv, .int .i64 k] 34 (0, 0)) ∧ (∀ g ∈ MemAt.foot p mv, w.heap.size ≤ g ∧ g ≠ X) ∧ (∀ g, xv.ownBlock = some g → g ≠ X) ∧
    8 ≤ m.c.length ∧ m.c.length ≤ 8 + 40 * j ∧ m.n ≤ j ∧ cs.length ≤ 8 + 40 * j ∧ 0 ≤ k ∧ k ≤ j
  fr : Fr [] w wr
  x : w.heap.size ≤ X

/-- a round of ran's loop -/
theorem RanRel.step {w wr W w3 w5 : World} {p X j : Nat} {mv xv mv' v' : Value} {m : MS} {kind x old y k k' : Int} {cs cs' : List Int} {S : List Nat} (hX : w.heap.size ≤ X) (hXlt : X < wr.heap.size)
    (hJ : 8 ≤ m.c.length ∧ m.c.length ≤ 8 + 40 * j ∧ m.n ≤ j ∧ cs.length ≤ 8 + 40 * j ∧ 0 ≤ k ∧ k ≤ j) (hfoot : ∀ g ∈ MemAt.foot p mv, w.heap.size ≤ g ∧ g ≠ X) (hfl : ∀ g ∈ MemAt.foot p mv, g < wr.heap.size) (hxX : ∀ g, xv.ownBlock = some g → g ≠ X) (hxl : ∀ g, xv.ownBlock = some g → g < wr.heap.size)
    (hfr : Fr [] w wr) (hW : Fr [] wr W) (hb3 : Both w3 p mv' v' (m.deed kind x old y) cs') (hn : cs'.length ≤ cs.length + 40 ∧ 0 ≤ k' ∧ k' ≤ k + 1) (hfr4 : Fr (MemAt.foot p mv) wr w3)
    (ho : ∀ g, mv'.ownBlock = some g → mv.ownBlock = some g ∨ W.heap.size ≤ g) (hx : ∀ g, v'.ownBlock = some g → xv.ownBlock = some g ∨ W.heap.size ≤ g)
    (h5 : Fr S w3 w5) (hS : ∀ s ∈ S, s = X ∨ (wr.heap.size ≤ s ∧ s < W.heap.size)) (hblk : w5.heap[X]? = some (.cells #[v', .int .i64 k'] 34 (0, 0))) : RanRel w p X (j + 1) w5 := by
  have hlen := m.deed_len kind x old y
  have hWs := hW.size
  have hws := hfr.size
  have hmS : ∀ g, mv'.ownBlock = some g → g ∉ S := by
    intro g hg hm
    rcases ho g hg with h | h
    · have h1 := hfoot g (by simp [MemAt.foot, h])
      have h2 := hfl g (by simp [MemAt.foot, h])
      rcases hS g hm with h | h <;> omega
    · rcases hS g hm with h | h <;> omega
  have hvS : ∀ g, v'.ownBlock = some g → g ∉ S := by
    intro g hg hm
    rcases hx g hg with h | h
    · have h1 := hxX g h
      have h2 := hxl g h
      rcases hS g hm with h | h <;> omega
    · rcases hS g hm with h | h <;> omega
  have hpS : p ∉ S := by
    intro hm
    have h1 := hfoot p (by simp [MemAt.foot])
    have h2 := hfl p (by simp [MemAt.foot])
    rcases hS p hm with h | h <;> omega
  refine ⟨⟨mv', v', _, cs', k', ⟨hb3.mem.keep h5 hpS hmS, hb3.ref.keep h5 hvS, hb3.apart⟩, hblk, ?_, ?_, by omega, by omega, by omega, by omega, by omega, by omega⟩, ?_, hX⟩
  · intro g hg
    simp only [MemAt.foot, List.mem_cons, Option.mem_toList] at hg
    rcases hg with rfl | hg
    · exact hfoot _ (by simp [MemAt.foot])
    · rcases ho g hg with h | h
      · exact hfoot g (by simp [MemAt.foot, h])
      · omega
  · intro g hg
    rcases hx g hg with h | h
    · exact hxX g h
    · omega
  · refine (hfr.trans hfr4 (fun s hs => Or.inr (hfoot s hs).1)).trans h5 (fun s hs => Or.inr ?_)
    rcases hS s hs with h | h <;> omega

set_option maxRecDepth 100000 in
theorem ran_any (w : World) (a : Option Addr) (len cap : Nat) (hd : IsDeeds w a len cap) :
    Calls Try.prog 8 #[.int .i64 8, .slice a len cap] w (RanPost w) := by
  have HD := Lib.hid hd
  have hm : len ≤ 9223372036854775807 := by have := hd.1; have := hd.2.1; unfold maxLen at this; omega
  clear hd
  go_enter Try.func8, Try.ntmps8
  go_wp2_with (go_at_call 15; refine (new_any w 8).mono ?_; intro e w1 h1; unfold MadeMem at h1; rw [if_pos (by omega)] at h1; obtain ⟨p, v, rfl, h1, h2, h3, h4⟩ := h1; refine go_stop ?_)
  have H1 := Lib.hid h1
  have H2 := Lib.hid h2
  have H3 := Lib.hid h3
  have H4 := Lib.hid h4
  clear h1 h2 h3 h4
  unfold Stop
  go_wp2_with (at_make; refine wpList_make_fr rfl (.tmp 12) (.tmp 12) 32 23 (.int .u64 0) 8 rfl u64_slice u64_info rfl 8 rfl rfl (by omega) (by unfold maxLen; omega) ?mk)
  case mk =>
  intro w2 hr hf
  have HR := Lib.hid hr
  have HF := Lib.hid hf
  clear hr hf
  obtain ⟨X, hX⟩ : ∃ X, X = w2.heap.size := ⟨_, rfl⟩
  have hrel : RanRel w p X 0 (w2.alloc (.cells #[.slice (some ⟨w1.heap.size, 0, none⟩) 8 8, .int .i64 0] 34)) := by
    have hsz1 := H2.out.size
    have hsz2 := HF.out.size
    have hlt := (HR.out.lt w1.heap.size rfl).2
    have hm := H1.out.keep HF.out (by simp) (by simp)
    have hfa : Fr [] w2 (w2.alloc (.cells #[.slice (some ⟨w1.heap.size, 0, none⟩) 8 8, .int .i64 0] 34)) := (Fr.refl [] _).alloc _
    have hlp : ∀ g ∈ MemAt.foot p v, w.heap.size ≤ g ∧ g < w1.heap.size := by
      intro g hg
      have h1 := H1.out.foot_lt g hg
      refine ⟨?_, h1⟩
      simp only [MemAt.foot, List.mem_cons, Option.mem_toList] at hg
      rcases hg with rfl | hg
      · exact H3.out
      · exact H4.out g hg
    refine ⟨⟨v, .slice (some ⟨w1.heap.size, 0, none⟩) 8 8, _, List.replicate 8 0, 0, ⟨hm.keep hfa (by simp) (by simp), Ref.keep (S := []) (w := w2) ?_ hfa (by simp), ?_⟩, ?_, ?_, ?_, ?_, ?_, ?_, ?_, ?_, ?_⟩, (H2.out.trans HF.out (by simp)).alloc _, by omega⟩
    · simpa [Ref] using HR.out
    · intro g hg hmem
      simp [Value.ownBlock] at hg
      have := hlp g hmem; omega
    · rw [hX]; exact new_block _ _
    · intro g hg
      have := hlp g hg; omega
    · intro g hg
      simp [Value.ownBlock] at hg; omega
    all_goals simp
  have HREL := Lib.hid hrel
  have HX := Lib.hid hX
  clear hrel
  go_wp2_with fail
  rw [← hX]
  clear hX
  go_loopw [7] (fun i wr => ∃ j : Nat, j ≤ len ∧ j ≤ 60 ∧ i = .int .i64 j ∧ RanRel w p X j wr) (fun i _ => 60 - (intOf i).toNat)
  case atStart => exact ⟨0, Nat.zero_le _, Nat.zero_le _, rfl, HREL.out⟩
  case round =>
    obtain ⟨j, hj, hj60, rfl, hrel⟩ := hrel
    by_cases hgo : j < len ∧ j < 60
    · obtain ⟨hlt, hlt60⟩ := hgo
      have ht1 : decide (j < len) = true := by simpa using hlt
      have ht2 : decide ((j : Int) < 60) = true := by simp; omega
      obtain ⟨⟨mv, xv, m, cs, k, hboth, hblk, hfoot, hxX, hm8, hm40, hmn, hcl, hk0, hkj⟩, hfr, hXw⟩ := hrel
      obtain ⟨b, off, rfl, hbw, _⟩ := HD.out.2.2 (by omega)
      have hd' := HD.out.keep hfr
      obtain ⟨b', off', hbe, hbw', hcells⟩ := hd'.2.2 (by omega)
      simp only [Option.some.injEq, Addr.mk.injEq, and_true] at hbe
      obtain ⟨rfl, rfl⟩ := hbe
      obtain ⟨kind, x, old, y, c0, c1, c2, c3⟩ := hcells j hlt
      have x0 := cell_block hblk 0
      have x1 := cell_block hblk 1
      simp at x0 x1
      have hXlt : X < wr.heap.size := lt_of_block hblk
      have hbX : ¬ X = b := by omega
      have hnX : ¬ wr.heap.size = X := by omega
      have hnb : ¬ wr.heap.size = b := by omega
      have hbF : b ∉ MemAt.foot p mv := fun h => by have := hfoot b h; omega
      have hXF : X ∉ MemAt.foot p mv := fun h => by have := hfoot X h; omega
      have HK : Hid (∀ W, Fr [] wr W → Calls Try.prog 10 #[.pointer (some ⟨p, 0, none⟩), .agg #[xv, .int .i64 k], .agg #[.int .i64 kind, .int .i64 x, .int .u64 old, .int .u64 y]] W (DoPost W p mv xv (m.deed kind x old y) cs.length k)) :=
        fun W hW => do_any W p kind x old y k (mv := mv) (xv := xv) (m := m) (cs := cs) ⟨hboth.mem.keep hW (by simp) (by simp), hboth.ref.keep hW (by simp), hboth.apart⟩ (by omega) (by omega) (by omega) hk0 (by omega)
      have HFLT := Lib.hid hboth.mem.foot_lt
      have HB := Lib.hid hboth
      have HBL := Lib.hid hblk
      have HFT := Lib.hid hfoot
      have HXX := Lib.hid hxX
      have HFR := Lib.hid hfr
      have HBF := Lib.hid hbF
      have HXF := Lib.hid hXF
      have HXlt := Lib.hid hXlt
      have HJ := Lib.hid (show 8 ≤ m.c.length ∧ m.c.length ≤ 8 + 40 * j ∧ m.n ≤ j ∧ cs.length ≤ 8 + 40 * j ∧ 0 ≤ k ∧ k ≤ j from ⟨hm8, hm40, hmn, hcl, hk0, hkj⟩)
      obtain ⟨sx, cx, rfl⟩ := hboth.ref.form
      clear hboth hblk hfoot hxX hcells hd' hm8 hm40 hmn hcl hk0 hkj hfr hbF hXF
      go_wp2_with fail
      go_region_held3 (fun w' => w'.cell? ⟨X, 0, none⟩ = some (.slice sx cs.length cx) ∧ w'.cell? ⟨X, 1, none⟩ = some (.int .i64 k) ∧ w'.cell? ⟨b, off + j * 4, none⟩ = some (.int .i64 kind) ∧ w'.cell? ⟨b, off + j * 4 + 1, none⟩ = some (.int .i64 x) ∧
          w'.cell? ⟨b, off + j * 4 + 2, none⟩ = some (.int .u64 old) ∧ w'.cell? ⟨b, off + j * 4 + 3, none⟩ = some (.int .u64 y)) (go_keep)
        (first | (go_at_call 10; refine (HK.out _ ?_).mono ?_; · first | exact (Fr.refl _ _).drew | exact ((Fr.refl _ _).alloc _).drew
                  rintro e w3 ⟨mv', v', k', bb, cs', rfl, hb3, hl3, hk3, hfr3, ho3, hx3⟩
                  try (have hn3 := hfr3.keep (p := wr.heap.size) (o := .cells #[.slice none 0 0, .int .i64 0] 34) (by exact new_block wr _) (fun h => by have := HFLT.out _ h; omega); have n0' := cell_block hn3 0; have n1' := cell_block hn3 1; have m0' := free_block hn3 0; have m1' := free_block hn3 1; simp at n0' n1'; clear hn3)
                  have hfr4 : Fr (MemAt.foot p mv) wr w3 := by first | exact ((Fr.refl _ _).drew).trans hfr3 (fun _ h => Or.inl h) | exact (((Fr.refl _ _).alloc _).drew).trans hfr3 (fun _ h => Or.inl h)
                  have x0' := hfr4.cell x0 HXF.out
                  have x1' := hfr4.cell x1 HXF.out
                  have c0' := hfr4.cell c0 HBF.out
                  have c1' := hfr4.cell c1 HBF.out
                  have c2' := hfr4.cell c2 HBF.out
                  have c3' := hfr4.cell c3 HBF.out
                  have hbl3 := hfr4.keep HBL.out HXF.out
                  have f0' := free_block hbl3 0
                  have f1' := free_block hbl3 1
                  have hX3 := lt_of_block hbl3
                  have hw3 : wr.heap.size ≤ w3.heap.size := hfr4.size
                  have hnX3 : ¬ w3.heap.size = X := by omega
                  have hnb3 : ¬ w3.heap.size = b := by omega
                  have HBL3 := Lib.hid hbl3
                  have HB3 := Lib.hid hb3
                  have HFR4 := Lib.hid hfr4
                  have HFR3 := Lib.hid hfr3
                  have HO3 := Lib.hid ho3
                  have HX3 := Lib.hid hx3
                  have HN3 := Lib.hid (And.intro hl3 hk3)
                  clear hbl3 hb3 hfr3 hfr4 ho3 hx3 hl3 hk3
                  obtain ⟨s3, c3x, rfl⟩ := HB3.out.ref.form))
      all_goals go_wp2
      all_goals go_roundw
      case rel =>
        refine ⟨j + 1, by omega, by omega, by go_num, ?_⟩
        refine RanRel.step hXw HXlt.out HJ.out HFT.out HFLT.out HXX.out (fun g hg => (HB.out.ref.lt g hg).2) HFR.out (W := wr.drew) (Fr.refl _ _).drew HB3.out HN3.out HFR4.out HO3.out HX3.out (S := [X]) ((((Fr.refl [X] w3).setCell (Or.inl (by simp)) _).setCell (Or.inl (by simp)) _).alloc _) (by simp) ?_
        rw [Below.heap_alloc _ _ _ (by simp; exact hX3)]
        simpa using set_block (set_block HBL3.out 0 _) 1 _
      case measure => simp [intOf]; omega
      case rel =>
        refine ⟨j + 1, by omega, by omega, by go_num, ?_⟩
        refine RanRel.step hXw HXlt.out HJ.out HFT.out HFLT.out HXX.out (fun g hg => (HB.out.ref.lt g hg).2) HFR.out (W := (wr.alloc _).drew) ((Fr.refl _ _).alloc _).drew HB3.out HN3.out HFR4.out HO3.out HX3.out (S := [X, wr.heap.size]) (((((Fr.refl _ w3).setCell (Or.inl (by simp)) _).setCell (Or.inl (by simp)) _).setCell (Or.inl (by simp)) _).setCell (Or.inl (by simp)) _) (by simp) ?_
        have hne : X ≠ wr.heap.size := fun h => hnX h.symm
        simpa using set_block (set_block (set_other (set_other HBL3.out hne 0 _) hne 1 _) 0 _) 1 _
      case measure => simp [intOf]; omega
    · have hfin : RanPost w (.returned (.pointer (some ⟨p, 0, none⟩))) wr := by
        obtain ⟨⟨mv, xv, m, cs, k, hboth, _, hfoot, _, hm8, hm40, hmn, _, _, _⟩, hfr, _⟩ := hrel
        exact ⟨p, mv, m, rfl, hboth.mem, hfr, fun g hg => (hfoot g hg).1, hm8, by omega, by omega⟩
      have HFIN := Lib.hid hfin
      clear hfin hrel
      by_cases hlt : j < len
      · have ht1 : decide (j < len) = true := by simpa using hlt
        have ht2 : decide ((j : Int) < 60) = false := by simp; omega
        go_wp2
        go_ret
        exact HFIN.out
      · have ht1 : decide (j < len) = false := by simpa using hlt
        go_wp2
        go_ret
        exact HFIN.out
end Go.Proofs.Ytpnoibgcnjbokaa
