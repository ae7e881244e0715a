/- impostlaw15.awake, ran: contracts -/
import Derived.Test.YthiobdhdefimhaaBsMine
namespace Go.Proofs.Ythiobdhdefimhaa
open Go.RowKit
set_option linter.unusedVariables false
set_option linter.unusedSimpArgs false

def kb : ByteArray := ⟨#[98]⟩
def ka : ByteArray := ⟨#[97]⟩
def x0 : Hold := fun _ => none
def x1 : Hold := x0.put kb (some 7)
def x2 : Hold := x1.put kb none
theorem x1_kb : x1 kb = some 7 := by unfold x1 Hold.put; rw [if_pos rfl]
theorem do_0 : doX x0 1 kb 7 = (x1, ⟨true, kb, 7, 0⟩) := rfl
theorem do_1 : doX x1 1 kb 8 = (x1, ⟨false, kb, 7, 0⟩) := by unfold doX; rw [if_pos rfl, x1_kb]
theorem do_2 : doX x1 3 kb 0 = (x1, ⟨true, kb, 7, 0⟩) := by unfold doX; rw [if_neg (by decide), if_neg (by decide), x1_kb]
theorem do_3 : doX x1 2 kb 0 = (x2, ⟨true, kb, 7, 0⟩) := by unfold doX; rw [if_neg (by decide), if_pos rfl, x1_kb]; rfl
theorem x1_some {k : ByteArray} : x1 k ≠ none ↔ k = kb := by
  unfold x1 x0 Hold.put
  by_cases h : k = kb
  · simp [h]
  · simp [h]
theorem x2_none (k : ByteArray) : x2 k = none := by
  unfold x2 x1 x0 Hold.put
  by_cases h : k = kb
  · simp [h]
  · simp [h]
theorem keys_1 {l : List ByteArray} (h : HasKeys x1 l) : l = [kb] := rise_unique h.1 (List.pairwise_singleton _ _) (fun k => by rw [h.2, x1_some]; simp)
theorem keys_2 {l : List ByteArray} (h : HasKeys x2 l) : l = [] := rise_unique h.1 List.Pairwise.nil (fun k => by rw [h.2, x2_none]; simp)
theorem seek_1 {r : An} (h : SekX (fun y => x1 y ≠ none) x1 ka r) : r.ok = true ∧ r.key = kb := by
  cases ho : r.ok
  · exact absurd (show ls kb.toList ka.toList = false by kernel_rfl) ((h.no ho).2 kb (x1_some.2 rfl))
  · exact ⟨rfl, x1_some.1 (h.yes ho).2.2.1⟩
abbrev anV (r : An) : Array Value := #[.bool r.ok, .string r.key, .int .u64 r.val, .int .i64 r.err]
abbrev anO (r : An) : Obj := .cells (anV r) 32 (0, 0)
set_option maxRecDepth 20000 in
set_option maxHeartbeats 8000000 in
theorem bs_awake (w : World) : Calls Try.prog 6 #[] w fun e w' => e = .returned (.bool true) ∧ Fr [] w w' := by
  have HN : Hid (∀ W, Calls Try.prog 8 #[.int .i64 0] W fun e w' => ∃ mb, e = .returned (pt mb) ∧ Hid (∃ mv, MemAt w' mb mv ⟨[], 0⟩ ∧ Fr [] W w' ∧ W.heap.size ≤ mb ∧ ∀ k, mv.ownBlock = some k → W.heap.size ≤ k)) := Lib.hid fun W => (new_any W 0).mono fun e w' h => by
    unfold MadeMem at h
    rw [if_pos (by decide)] at h
    obtain ⟨p, v, h1, h2, h3, h4, h5⟩ := h
    exact ⟨p, h1, Lib.hid ⟨v, h2, h3, h4, h5⟩⟩
  have HI : Hid (∀ (W : World) (tb mb n : Nat) (K : List (Nat × Obj)), Hid (Mine w W tb mb x0 n K) → n ≤ 100 → Calls Try.prog 21 #[pt tb, .string ⟨#[98]⟩, .int .u64 7] W fun e w' => ∃ p, e = .returned (pt p) ∧ Hid (∀ W', Fr [] w' W' → Calls Try.prog 9 #[pt p] W' fun e w'' => e = .returned (.agg #[.bool true, .string ⟨#[98]⟩, .int .u64 7, .int .i64 0]) ∧ Hid (Mine w w'' tb mb x1 (n + 1) K))) := Lib.hid fun W tb mb n K h hn => by
    have := mine_Insert h.out (by omega) kb 7
    rw [do_0] at this
    exact this
  have HI2 : Hid (∀ (W : World) (tb mb n : Nat) (K : List (Nat × Obj)), Hid (Mine w W tb mb x1 n K) → n ≤ 100 → Calls Try.prog 21 #[pt tb, .string ⟨#[98]⟩, .int .u64 8] W fun e w' => ∃ p, e = .returned (pt p) ∧ Hid (∀ W', Fr [] w' W' → Calls Try.prog 9 #[pt p] W' fun e w'' => e = .returned (.agg #[.bool false, .string ⟨#[98]⟩, .int .u64 7, .int .i64 0]) ∧ Hid (Mine w w'' tb mb x1 (n + 1) K))) := Lib.hid fun W tb mb n K h hn => by
    have := mine_Insert h.out (by omega) kb 8
    rw [do_1] at this
    exact this
  have HF : Hid (∀ (W : World) (tb mb n : Nat) (K : List (Nat × Obj)), Hid (Mine w W tb mb x1 n K) → n ≤ 100 → Calls Try.prog 23 #[pt tb, .string ⟨#[98]⟩] W fun e w' => ∃ p, e = .returned (pt p) ∧ Hid (∀ W', Fr [] w' W' → Calls Try.prog 9 #[pt p] W' fun e w'' => e = .returned (.agg #[.bool true, .string ⟨#[98]⟩, .int .u64 7, .int .i64 0]) ∧ Hid (Mine w w'' tb mb x1 (n + 1) K))) := Lib.hid fun W tb mb n K h hn => by
    have := mine_Find h.out (by omega) kb
    rw [do_2] at this
    exact this
  have HD : Hid (∀ (W : World) (tb mb n : Nat) (K : List (Nat × Obj)), Hid (Mine w W tb mb x1 n K) → n ≤ 100 → Calls Try.prog 24 #[pt tb, .string ⟨#[98]⟩] W fun e w' => ∃ p, e = .returned (pt p) ∧ Hid (∀ W', Fr [] w' W' → Calls Try.prog 9 #[pt p] W' fun e w'' => e = .returned (.agg #[.bool true, .string ⟨#[98]⟩, .int .u64 7, .int .i64 0]) ∧ Hid (Mine w w'' tb mb x2 (n + 1) K))) := Lib.hid fun W tb mb n K h hn => by
    have := mine_Delete h.out (by omega) kb
    rw [do_3] at this
    exact this
  have HS : Hid (∀ (W : World) (tb mb n : Nat) (K : List (Nat × Obj)), Hid (Mine w W tb mb x1 n K) → n ≤ 100 → Calls Try.prog 17 #[pt tb, .string ⟨#[97]⟩] W fun e w' => ∃ p, e = .returned (pt p) ∧ Hid (∃ v er, ∀ W', Fr [] w' W' → Calls Try.prog 9 #[pt p] W' fun e w'' => e = .returned (.agg #[.bool true, .string ⟨#[98]⟩, .int .u64 v, .int .i64 er]) ∧ Hid (Mine w w'' tb mb x1 (n + 1) K))) := Lib.hid fun W tb mb n K h hn => (mine_Seek h.out (by omega) ka).mono fun e w' ⟨p, he, hr⟩ => ⟨p, he, Lib.hid (by
      obtain ⟨r, h1, h2⟩ := hr.out
      obtain ⟨g1, g2⟩ := seek_1 h1
      obtain ⟨ok, key, val, err⟩ := r
      dsimp only at g1 g2
      subst g1; subst g2
      exact ⟨val, err, h2⟩)⟩
  have HK : Hid (∀ (W : World) (tb mb n : Nat) (K : List (Nat × Obj)), Hid (Mine w W tb mb x1 n K) → n ≤ 100 → Calls Try.prog 14 #[pt tb] W fun e w' => ∃ s c, e = .returned (.slice s 1 c) ∧ Hid (Mine w w' tb mb x1 n K)) := Lib.hid fun W tb mb n K h hn => (mine_Keys h.out (by omega)).mono fun e w' ⟨s, l, c, he, hr⟩ => by
    obtain ⟨h1, h2, h3, _⟩ := hr.out
    have := keys_1 h2
    subst this
    exact ⟨s, c, he, Lib.hid h3⟩
  have HK2 : Hid (∀ (W : World) (tb mb n : Nat) (K : List (Nat × Obj)), Hid (Mine w W tb mb x2 n K) → n ≤ 100 → Calls Try.prog 14 #[pt tb] W fun e w' => ∃ s c, e = .returned (.slice s 0 c) ∧ Hid (Mine w w' tb mb x2 n K)) := Lib.hid fun W tb mb n K h hn => (mine_Keys h.out (by omega)).mono fun e w' ⟨s, l, c, he, hr⟩ => by
    obtain ⟨h1, h2, h3, _⟩ := hr.out
    have := keys_2 h2
    subst this
    exact ⟨s, c, he, Lib.hid h3⟩
  go_enter Try.func6, Try.ntmps6
  go_wp2_with (go_at_call 8; refine (HN.out w).mono ?_; rintro e u1 ⟨mb, rfl, HM⟩; refine go_stop ?_)
  unfold Stop
  have HT : Hid (Calls Try.prog 7 #[pt mb] u1 fun e w' => ∃ tb, e = .returned (pt tb) ∧ Hid (Mine w w' tb mb x0 0 [])) := Lib.hid (by
    obtain ⟨mv, h1, h2, h3, h4⟩ := HM.out
    exact mine_New h1 h2 h3 h4)
  go_wp2_with (go_at_call 7; refine HT.out.mono ?_; rintro e u2 ⟨tb, rfl, M2⟩; refine go_stop ?_)
  unfold Stop
  clear HM HT HN
  go_wp2_with (go_at_call 21; refine (HI.out _ tb mb 0 [] M2 (by omega)).mono ?_; rintro e u3 ⟨p3, rfl, R3⟩; refine go_stop ?_)
  unfold Stop
  go_wp2_with (go_at_call 9; refine (R3.out _ (Fr.refl [] _)).mono ?_; rintro e u4 ⟨rfl, M4⟩; refine go_stop ?_)
  unfold Stop
  have M4a := Lib.hid (M4.out.alloc #[.bool true, .string ⟨#[98]⟩, .int .u64 7, .int .i64 0] 32)
  clear R3 M2 HI
  go_wp2_with (go_at_call 21; refine (HI2.out _ tb mb 1 _ M4a (by omega)).mono ?_; rintro e u5 ⟨p5, rfl, R5⟩; refine go_stop ?_)
  unfold Stop
  go_wp2_with (go_at_call 9; refine (R5.out _ (Fr.refl [] _)).mono ?_; rintro e u6 ⟨rfl, M6⟩; refine go_stop ?_)
  unfold Stop
  have M6a := Lib.hid (M6.out.alloc #[.bool false, .string ⟨#[98]⟩, .int .u64 7, .int .i64 0] 32)
  clear R5 M4 M4a HI2
  go_wp2_with (go_at_call 23; refine (HF.out _ tb mb 2 _ M6a (by omega)).mono ?_; rintro e u7 ⟨p7, rfl, R7⟩; refine go_stop ?_)
  unfold Stop
  go_wp2_with (go_at_call 9; refine (R7.out _ (Fr.refl [] _)).mono ?_; rintro e u8 ⟨rfl, M8⟩; refine go_stop ?_)
  unfold Stop
  have M8a := Lib.hid (M8.out.alloc #[.bool true, .string ⟨#[98]⟩, .int .u64 7, .int .i64 0] 32)
  clear R7 M6 M6a HF
  go_wp2_with (go_at_call 14; refine (HK.out _ tb mb 3 _ M8a (by omega)).mono ?_; rintro e u9 ⟨s9, c9, rfl, M9⟩; refine go_stop ?_)
  unfold Stop
  clear M8 M8a HK
  go_wp2_with (go_at_call 17; refine (HS.out _ tb mb 3 _ M9 (by omega)).mono ?_; rintro e u10 ⟨p10, rfl, R10⟩; refine go_stop ?_)
  unfold Stop
  have hR := R10.out
  obtain ⟨sv, se, hR⟩ := hR
  have R10' := Lib.hid hR
  clear hR
  go_wp2_with (go_at_call 9; refine (R10'.out _ (Fr.refl [] _)).mono ?_; rintro e u11 ⟨rfl, M11⟩; refine go_stop ?_)
  unfold Stop
  have M11a := Lib.hid (M11.out.alloc #[.bool true, .string ⟨#[98]⟩, .int .u64 sv, .int .i64 se] 32)
  clear R10 R10' M9 HS
  go_wp2_with (go_at_call 24; refine (HD.out _ tb mb 4 _ M11a (by omega)).mono ?_; rintro e u12 ⟨p12, rfl, R12⟩; refine go_stop ?_)
  unfold Stop
  go_wp2_with (go_at_call 9; refine (R12.out _ (Fr.refl [] _)).mono ?_; rintro e u13 ⟨rfl, M13⟩; refine go_stop ?_)
  unfold Stop
  have M13a := Lib.hid (M13.out.alloc #[.bool true, .string ⟨#[98]⟩, .int .u64 7, .int .i64 0] 32)
  clear R12 M11 M11a HD
  obtain ⟨a0, a1, a2, a3, _⟩ := cells4 (M13a.out.at (b := u4.heap.size) (o := .cells #[.bool true, .string ⟨#[98]⟩, .int .u64 7, .int .i64 0] 32 (0, 0)) (by simp))
  obtain ⟨b0, b1, b2, b3, _⟩ := cells4 (M13a.out.at (b := u6.heap.size) (o := .cells #[.bool false, .string ⟨#[98]⟩, .int .u64 7, .int .i64 0] 32 (0, 0)) (by simp))
  obtain ⟨d0, d1, d2, d3, _⟩ := cells4 (M13a.out.at (b := u8.heap.size) (o := .cells #[.bool true, .string ⟨#[98]⟩, .int .u64 7, .int .i64 0] 32 (0, 0)) (by simp))
  obtain ⟨f0, f1, f2, f3, _⟩ := cells4 (M13a.out.at (b := u11.heap.size) (o := .cells #[.bool true, .string ⟨#[98]⟩, .int .u64 sv, .int .i64 se] 32 (0, 0)) (by simp))
  clear M13
  go_wp2_with (go_at_call 14; refine (HK2.out _ tb mb 5 _ M13a (by omega)).mono ?_; rintro e u14 ⟨s14, c14, rfl, M14⟩; refine go_stop ?_)
  unfold Stop
  go_wp2
  go_ret
  exact ⟨rfl, M14.out.fr⟩
end Go.Proofs.Ythiobdhdefimhaa
