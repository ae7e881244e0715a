/- A SLAB THAT ONLY ITS OWN BLOCKS, AND NEW ONES, HANG ON; impostlaw02.awake -/
import Derived.Test.YtkampbbginamhaaSlabBegun
namespace Go.Proofs.Ytkampbbginamhaa
open Go.RowKit
set_option linter.unusedVariables false
set_option linter.unusedSimpArgs false

/-- the slab at p in wi, which is w0 but for the blocks of FT and new ones -/
def Own (w0 : World) (FT : List Nat) (wi : World) (p pm : Nat) (mv rv : Value) (N : Nat) (s : SS) : Prop :=
  ∃ fv n, SlabAt wi p pm mv rv fv n s ∧ n ≤ N ∧ Fr FT w0 wi ∧ ∀ k ∈ SlabAt.foot p pm mv rv fv, k ∈ FT ∨ w0.heap.size ≤ k
theorem Own.fr {w0 FT wi p pm mv rv N s} (h : Own w0 FT wi p pm mv rv N s) : Fr FT w0 wi := by obtain ⟨_, _, _, _, h, _⟩ := h; exact h
theorem Own.drewN {w0 FT wi p pm mv rv N s} (h : Own w0 FT wi p pm mv rv N s) (k : Nat) : Own w0 FT (wi.drewN k) p pm mv rv N s := by
  obtain ⟨fv, n, h1, h2, h3, h4⟩ := h
  exact ⟨fv, n, h1.keep ((Fr.refl [] wi).drewN k) (by simp), h2, h3.drewN k, h4⟩
theorem Own.mono {w0 FT wi p pm mv rv N N' s} (h : Own w0 FT wi p pm mv rv N s) (hN : N ≤ N') : Own w0 FT wi p pm mv rv N' s := by
  obtain ⟨fv, n, h1, h2, h3, h4⟩ := h
  exact ⟨fv, n, h1, by omega, h3, h4⟩
/-- another world in which the slab's blocks, and those that w0 had, are as they were -/
theorem Own.keep {S w0 FT wi wj p pm mv rv N s} (h : Own w0 FT wi p pm mv rv N s) (hf : Fr S wi wj) (hS : ∀ k ∈ S, wi.heap.size ≤ k ∨ (w0.heap.size ≤ k ∧ ∀ fv n, SlabAt wi p pm mv rv fv n s → k ∉ SlabAt.foot p pm mv rv fv)) : Own w0 FT wj p pm mv rv N s := by
  obtain ⟨fv, n, h1, h2, h3, h4⟩ := h
  refine ⟨fv, n, h1.keep hf (fun k hk hm => ?_), h2, h3.trans hf (fun k hk => ?_), h4⟩
  · rcases hS k hm with h | h
    · have := h1.lt k hk; omega
    · exact h.2 fv n h1 hk
  · have := h3.size
    rcases hS k hk with h | h
    · exact Or.inr (by omega)
    · exact Or.inr h.1
theorem Own.out {w0 FT wi wj p pm mv rv fv N s'} (hf : Fr FT w0 wi) (h4 : ∀ k ∈ SlabAt.foot p pm mv rv fv, k ∈ FT ∨ w0.heap.size ≤ k) (h : SlabOut wi p pm mv rv fv N s' wj) : Own w0 FT wj p pm mv rv N s' := by
  obtain ⟨fv', n, h1, h2, h3, h5⟩ := h
  refine ⟨fv', n, h1, h2, hf.trans h3 h4, fun k hk => ?_⟩
  have hs := hf.size
  simp only [SlabAt.foot, List.mem_cons, List.mem_append, Option.mem_toList] at hk h4
  rcases hk with e | e | e | e | e
  · exact h4 k (Or.inl e)
  · exact h4 k (Or.inr (Or.inl e))
  · exact h4 k (Or.inr (Or.inr (Or.inl e)))
  · exact h4 k (Or.inr (Or.inr (Or.inr (Or.inl e))))
  · rcases h5 k e with e | e
    · exact h4 k (Or.inr (Or.inr (Or.inr (Or.inr e))))
    · exact Or.inr (by omega)

section
variable {w0 wi : World} {FT : List Nat} {p pm : Nat} {mv rv : Value} {N : Nat} {s : SS} {G : Int}
theorem own_alloc (h : Own w0 FT wi p pm mv rv N s) (ho : s.Ok G) (hG : G ≤ 100000) (hrow : s.row.length ≤ 1000000) (hN : N ≤ 100000000) :
    Calls Try.prog 22 #[.pointer (some ⟨p, 0, none⟩)] wi fun e w' => e = .returned (.tuple #[.int .u64 s.allocV, .int .i64 s.allocE]) ∧ Own w0 FT w' p pm mv rv (N + s.words) s.alloc := by
  obtain ⟨fv, n, h1, h2, h3, h4⟩ := h
  refine (slab_alloc wi p pm h1 ho hG hrow (by omega)).mono fun e w' ⟨he, ho⟩ => ⟨he, (Own.out h3 h4 ho).mono (by omega)⟩
theorem own_free (h : Own w0 FT wi p pm mv rv N s) (r : Int) (hr : IsW r) (ho : s.Ok G) (hrow : s.row.length ≤ 1000000) :
    Calls Try.prog 21 #[.pointer (some ⟨p, 0, none⟩), .int .u64 r] wi fun e w' => e = .returned (.int .i64 (s.freeE r)) ∧ Own w0 FT w' p pm mv rv N (s.free r) := by
  obtain ⟨fv, n, h1, h2, h3, h4⟩ := h
  refine (slab_free wi p pm r h1 hr ho hrow).mono fun e w' ⟨he, ho⟩ => ⟨he, (Own.out h3 h4 ho).mono (by omega)⟩
theorem own_cell (h : Own w0 FT wi p pm mv rv N s) (r i : Int) (hr : IsW r) (ho : s.Ok G) :
    Calls Try.prog 19 #[.pointer (some ⟨p, 0, none⟩), .int .u64 r, .int .i64 i] wi fun e w' => e = .returned (.tuple #[.int .i64 (s.cellV r i), .int .i64 (s.cellE r i)]) ∧ ∃ k, w' = wi.drewN k := by
  obtain ⟨fv, n, h1, h2, h3, h4⟩ := h
  exact slab_cellof wi p pm r i h1 hr ho
theorem own_live (h : Own w0 FT wi p pm mv rv N s) (hl : s.recs.length ≤ 65536) (hr : s.row.length ≤ 65536) :
    Calls Try.prog 12 #[.pointer (some ⟨p, 0, none⟩)] wi fun e w' => e = .returned (.int .i64 ((s.recs.length : Int) - s.row.length)) ∧ ∃ k, w' = wi.drewN k := by
  obtain ⟨fv, n, h1, h2, h3, h4⟩ := h
  exact slab_live wi p pm h1 hl hr
theorem own_load (h : Own w0 FT wi p pm mv rv N s) (a : Int) (ha : 0 ≤ a) (ha' : a < s.c.length) (hl : s.c.length ≤ 65536) (hN : N ≤ 100000000) :
    Calls Try.prog 14 #[.pointer (some ⟨pm, 0, none⟩), .int .i64 a] wi fun e w' => e = .returned (.tuple #[.int .u64 (s.c.getD a.toNat 0), .int .i64 0]) ∧ Own w0 FT w' p pm mv rv (N + 1) s := by
  obtain ⟨fv, n, h1, h2, h3, h4⟩ := h
  have hhas : (MS.mk s.c n).has a = true := by simp [MS.has]; omega
  refine (load_any wi pm a h1.mem hl (by show n ≤ _; omega)).mono fun e w' ⟨he, hm, hf⟩ => ?_
  rw [MS.err_yes hhas, MS.at, hhas, if_pos rfl] at he
  rw [MS.ask, hhas, if_pos rfl] at hm
  refine ⟨he, fv, n + 1, h1.stored (c' := s.c) hm (hf.mono (fun k hk => Or.inl (MemAt.p_in pm mv k hk))), by omega, h3.trans hf (fun k hk => h4 k (by simp at hk; simp [SlabAt.foot, hk])), h4⟩
end

/-- the document's example -/
def aw0 : SS := ⟨3, 2, [(0, false), (0, false)], [0, 1], [0, 0, 0, 0, 0, 0, 0]⟩
def aw1 : SS := ⟨3, 2, [(1, true), (0, false)], [1], [0, 0, 0, 0, 0, 0, 0]⟩
def aw2 : SS := ⟨3, 2, [(1, true), (1, true)], [], [0, 0, 0, 0, 0, 0, 0]⟩
def aw3 : SS := ⟨3, 2, [(1, false), (1, true)], [0], [0, 0, 0, 0, 0, 0, 0]⟩
def aw4 : SS := ⟨3, 2, [(2, true), (1, true)], [], [0, 0, 0, 0, 0, 0, 0]⟩
theorem aw_ok (s : SS) (h : s = aw0 ∨ s = aw1 ∨ s = aw2 ∨ s = aw3 ∨ s = aw4) : s.Ok 2 := by
  rcases h with rfl | rfl | rfl | rfl | rfl <;> exact ⟨by decide, by decide, by decide, by decide, by decide⟩
theorem aw_new : SS.new ⟨List.replicate (3 : Int).toNat 0, 0⟩ (2 : Int).toNat (2 : Int).toNat = aw0 := rfl

set_option maxRecDepth 100000 in
set_option maxHeartbeats 2000000 in
theorem slab_awake (w : World) : Calls Try.prog 9 #[] w fun e w' => e = .returned (.bool true) ∧ Fr [] w w' := by
  have hfit : slabFits ⟨List.replicate (3 : Int).toNat 0, 0⟩ 2 2 = true := by decide +kernel
  have HFIT := Lib.hid hfit
  clear hfit
  go_enter Try.func9, Try.ntmps9
  go_wp2_with (first | (go_at_call 24; refine (new_any w 3).mono ?_; intro e w1 hn; unfold MadeMem at hn; rw [if_pos (by omega)] at hn; obtain ⟨pm, v, rfl, hm, hf, hp, hv⟩ := hn; refine go_stop ?_))
  have hmf : ∀ k ∈ MemAt.foot pm v, w.heap.size ≤ k := by
    intro k hk
    simp only [MemAt.foot, List.mem_cons, Option.mem_toList] at hk
    rcases hk with rfl | h
    · exact hp
    · exact hv k h
  have HNS := Lib.hid (slab_new_yes w1 pm 2 2 hm (by simp) (by omega) (by omega) (by omega))
  have HF1 := Lib.hid hf
  have HMF := Lib.hid hmf
  clear hm hf hp hv hmf
  unfold Stop
  go_wp2_with (first | (go_at_call 23; refine HNS.out.mono ?_; intro e w2 hn; obtain ⟨p, mv, rv, fv, rfl, hs, hf2, hnew⟩ := MadeSlab.yes hn HFIT.out; refine go_stop ?_))
  have h0 : Own w [] w2 p pm mv rv 0 aw0 := by
    refine ⟨fv, 0, hs, Nat.le_refl _, HF1.out.trans hf2 (fun k hk => Or.inr (HMF.out k hk)), fun k hk => ?_⟩
    rcases hnew k hk with h | h
    · exact Or.inr (HMF.out k h)
    · have := HF1.out.size; exact Or.inr (by omega)
  have H0 := Lib.hid h0
  clear hs hf2 hnew h0
  unfold Stop
  have A0 : ∀ X, Own w [] X p pm mv rv 0 aw0 → Calls Try.prog 22 #[.pointer (some ⟨p, 0, none⟩)] X fun e w' => e = .returned (.tuple #[.int .u64 4294967297, .int .i64 0]) ∧ Own w [] w' p pm mv rv 2 aw1 := fun X h => own_alloc h (aw_ok _ (by simp)) (by omega) (by decide) (by omega)
  have A1 : ∀ X, Own w [] X p pm mv rv 2 aw1 → Calls Try.prog 22 #[.pointer (some ⟨p, 0, none⟩)] X fun e w' => e = .returned (.tuple #[.int .u64 4294967298, .int .i64 0]) ∧ Own w [] w' p pm mv rv 4 aw2 := fun X h => own_alloc h (aw_ok _ (by simp)) (by omega) (by decide) (by omega)
  have A2 : ∀ X, Own w [] X p pm mv rv 4 aw2 → Calls Try.prog 22 #[.pointer (some ⟨p, 0, none⟩)] X fun e w' => e = .returned (.tuple #[.int .u64 0, .int .i64 7]) ∧ Own w [] w' p pm mv rv 6 aw2 := fun X h => own_alloc h (aw_ok _ (by simp)) (by omega) (by decide) (by omega)
  have A3 : ∀ X, Own w [] X p pm mv rv 6 aw2 → Calls Try.prog 21 #[.pointer (some ⟨p, 0, none⟩), .int .u64 4294967297] X fun e w' => e = .returned (.int .i64 0) ∧ Own w [] w' p pm mv rv 6 aw3 := fun X h => own_free h 4294967297 (by unfold IsW; omega) (aw_ok _ (by simp)) (by decide)
  have A4 : ∀ X, Own w [] X p pm mv rv 6 aw3 → Calls Try.prog 22 #[.pointer (some ⟨p, 0, none⟩)] X fun e w' => e = .returned (.tuple #[.int .u64 8589934593, .int .i64 0]) ∧ Own w [] w' p pm mv rv 8 aw4 := fun X h => own_alloc h (aw_ok _ (by simp)) (by omega) (by decide) (by omega)
  have A5 : ∀ X, Own w [] X p pm mv rv 8 aw4 → Calls Try.prog 19 #[.pointer (some ⟨p, 0, none⟩), .int .u64 8589934593, .int .i64 1] X fun e w' => e = .returned (.tuple #[.int .i64 4, .int .i64 0]) ∧ ∃ k, w' = X.drewN k := fun X h => own_cell h 8589934593 1 (by unfold IsW; omega) (aw_ok _ (by simp))
  have A6 : ∀ X, Own w [] X p pm mv rv 8 aw4 → Calls Try.prog 19 #[.pointer (some ⟨p, 0, none⟩), .int .u64 4294967297, .int .i64 1] X fun e w' => e = .returned (.tuple #[.int .i64 0, .int .i64 4]) ∧ ∃ k, w' = X.drewN k := fun X h => own_cell h 4294967297 1 (by unfold IsW; omega) (aw_ok _ (by simp))
  have A7 : ∀ X, Own w [] X p pm mv rv 8 aw4 → Calls Try.prog 12 #[.pointer (some ⟨p, 0, none⟩)] X fun e w' => e = .returned (.int .i64 2) ∧ ∃ k, w' = X.drewN k := fun X h => own_live h (by decide) (by decide)
  have P1 : ∀ X, Calls Try.prog 17 #[.int .u64 8589934593] X fun e w' => e = .returned (.int .i64 0) ∧ X = w' := fun X => slab_place 8589934593 X (by unfold IsW; omega)
  have P2 : ∀ X, Calls Try.prog 18 #[.int .u64 8589934593] X fun e w' => e = .returned (.int .i64 2) ∧ X = w' := fun X => slab_gen 8589934593 X (by unfold IsW; omega)
  have B0 := Lib.hid A0
  have B1 := Lib.hid A1
  have B2 := Lib.hid A2
  have B3 := Lib.hid A3
  have B4 := Lib.hid A4
  have B5 := Lib.hid A5
  have B6 := Lib.hid A6
  have B7 := Lib.hid A7
  have Q1 := Lib.hid P1
  have Q2 := Lib.hid P2
  clear A0 A1 A2 A3 A4 A5 A6 A7 P1 P2
  go_wp2_with (go_at_call 22; refine (B0.out _ H0.out).mono ?_; rintro e w3 ⟨rfl, h⟩; have H1 := Lib.hid h; clear h; refine go_stop ?_)
  unfold Stop
  go_wp2_with (go_at_call 22; refine (B1.out _ H1.out).mono ?_; rintro e w4 ⟨rfl, h⟩; have H2 := Lib.hid h; clear h; refine go_stop ?_)
  unfold Stop
  go_wp2_with (go_at_call 22; refine (B2.out _ H2.out).mono ?_; rintro e w5 ⟨rfl, h⟩; have H3 := Lib.hid h; clear h; refine go_stop ?_)
  unfold Stop
  go_wp2_with (go_at_call 21; refine (B3.out _ H3.out).mono ?_; rintro e w6 ⟨rfl, h⟩; have H4 := Lib.hid h; clear h; refine go_stop ?_)
  unfold Stop
  go_wp2_with (go_at_call 22; refine (B4.out _ H4.out).mono ?_; rintro e w7 ⟨rfl, h⟩; have H5 := Lib.hid h; clear h; refine go_stop ?_)
  unfold Stop
  go_wp2_with (go_at_call 19; refine (B5.out _ H5.out).mono ?_; rintro e w8 ⟨rfl, k1, rfl⟩; refine go_stop ?_)
  unfold Stop
  have H6 := Lib.hid (H5.out.drewN k1)
  go_wp2_with (go_at_call 19; refine (B6.out _ H6.out).mono ?_; rintro e w8 ⟨rfl, k2, rfl⟩; refine go_stop ?_)
  unfold Stop
  have H7 := Lib.hid (H6.out.drewN k2)
  go_wp2_with (first | (go_at_call 17; refine (Q1.out _).mono ?_; rintro e w9 ⟨rfl, rfl⟩) | (go_at_call 18; refine (Q2.out _).mono ?_; rintro e w9 ⟨rfl, rfl⟩) | (go_at_call 12; refine (B7.out _ (by first | exact H7.out | exact H5.out.drewN _)).mono ?_; rintro e w9 ⟨rfl, k3, rfl⟩))
  go_ret
  exact ⟨rfl, H5.out.fr.drewN _⟩
end Go.Proofs.Ytkampbbginamhaa
