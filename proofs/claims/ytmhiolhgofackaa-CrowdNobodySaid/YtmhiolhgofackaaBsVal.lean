/- PACKAGE bst: what a node tells; words; steps that are made -/
import Derived.Test.YtmhiolhgofackaaBsAt
import Derived.Test.YtmhiolhgofackaaAfter
import Derived.Deep.DeepCutAuto
import Derived.StillTailTactics
namespace Go.Proofs.Ytmhiolhgofackaa
open Go.RowKit
set_option linter.unusedVariables false
set_option linter.unusedSimpArgs false

theorem uw (n : Int) : IntKind.u64.wrap n = n % 18446744073709551616 := by simp [IntKind.wrap, IntKind.bits, IntKind.signed]
theorem w64 {n : Int} (h0 : -9223372036854775808 ≤ n) (h1 : n ≤ 9223372036854775807) : wrap64 n = n := IntWalk.wrap64_in n ⟨h0, h1⟩
theorem pack_eq (s i : Int) : IntKind.u64.wrap (IntKind.u64.wrap (IntKind.u64.wrap i * 4) + (IntKind.u64.wrap s).tmod 4) = packW s i := by
  simp only [uw]
  rw [Int.tmod_eq_emod_of_nonneg (by omega)]
  unfold packW
  omega
theorem wd_pack (s i : Int) (w : World) : Calls Try.prog 85 #[.int .i64 s, .int .i64 i] w fun e w' => e = .returned (.int .u64 (packW s i)) ∧ w = w' := by
  go_enter Try.func85, Try.ntmps85
  go_wp2
  go_ret
  exact ⟨congrArg (fun z => Ending.returned (.int .u64 z)) (pack_eq s i), rfl⟩
abbrev IsU (n : Int) : Prop := 0 ≤ n ∧ n < 18446744073709551616
theorem wd_state (n : Int) (w : World) (h : IsU n) : Calls Try.prog 75 #[.int .u64 n] w fun e w' => e = .returned (.int .i64 (n % 4)) ∧ w = w' := by
  obtain ⟨h0, h1⟩ := h
  go_enter Try.func75, Try.ntmps75
  go_wp2
  go_ret
  refine ⟨?_, rfl⟩
  first | rfl | (rw [w64 (by omega) (by omega)])
theorem wd_info (n : Int) (w : World) (h : IsU n) : Calls Try.prog 87 #[.int .u64 n] w fun e w' => e = .returned (.int .i64 (n / 4)) ∧ w = w' := by
  obtain ⟨h0, h1⟩ := h
  go_enter Try.func87, Try.ntmps87
  go_wp2
  go_ret
  refine ⟨?_, rfl⟩
  first | rfl | (rw [w64 (by omega) (by omega)])

theorem nd_above (n : Nd) (p b : Nat) (k : ByteArray) (w : World) (hb : NodB w b p n) : Calls Try.prog 65 #[pt b, .string k] w fun e w' => e = .returned (.bool (n.above k)) ∧ w = w' := by
  obtain ⟨_, _, c2, c3, _, _⟩ := nod_cells hb
  clear hb
  obtain ⟨i, f, key, v, c⟩ := n
  dsimp only at c2 c3
  cases f
  · go_enter Try.func65, Try.ntmps65
    go_wp2
    go_ret
    exact ⟨rfl, rfl⟩
  · go_enter Try.func65, Try.ntmps65
    go_wp2
    go_ret
    exact ⟨rfl, rfl⟩
theorem nd_has (n : Nd) (p b : Nat) (k : ByteArray) (w : World) (hb : NodB w b p n) : Calls Try.prog 47 #[pt b, .string k] w fun e w' => e = .returned (.bool (n.has k)) ∧ w = w' := by
  obtain ⟨_, _, c2, c3, _, _⟩ := nod_cells hb
  clear hb
  obtain ⟨i, f, key, v, c⟩ := n
  dsimp only at c2 c3
  cases f
  · go_enter Try.func47, Try.ntmps47
    go_wp2
    go_ret
    exact ⟨rfl, rfl⟩
  · go_enter Try.func47, Try.ntmps47
    go_wp2
    go_ret
    exact ⟨rfl, rfl⟩
theorem nd_word (n : Nd) (p b : Nat) (w : World) (hb : NodB w b p n) (h0 : 0 ≤ n.cell) (h1 : n.cell ≤ 65536) : Calls Try.prog 73 #[pt b] w fun e w' => e = .returned (.int .i64 n.cell) ∧ w = w' := by
  obtain ⟨_, _, _, _, _, c5⟩ := nod_cells hb
  clear hb
  go_enter Try.func73, Try.ntmps73
  go_wp2
  go_ret
  exact ⟨rfl, rfl⟩
theorem wk_word (A : TA) (b i : Nat) (o : Wk) (s : Int) (w : World) (hb : WkB w A b i o) : Calls Try.prog 74 #[pt b, .int .i64 s] w fun e w' => e = .returned (.int .u64 (packW s i)) ∧ w = w' := by
  obtain ⟨c0, _⟩ := wk_cells hb
  clear hb
  go_enter Try.func74, Try.ntmps74
  go_wp2_with (go_at_call 85; refine (wd_pack _ _ _).mono ?_; rintro e w' ⟨rfl, rfl⟩)
  go_ret
  exact ⟨rfl, rfl⟩
def Br.agg (b : Br) : Value := .agg #[.int .i64 b.cell, .int .u64 b.first]
def Nd.left (n : Nd) (p : Nat) : Br := ⟨n.cell + 1, (p : Int) - 2⟩
def Nd.right (n : Nd) (p : Nat) : Br := ⟨n.cell + 2, (p : Int) - 1⟩
def Nd.toward (n : Nd) (p : Nat) (k : ByteArray) : Br := if n.above k then n.left p else n.right p
def Nd.beside (n : Nd) (p : Nat) (k : ByteArray) : Br := if n.above k then n.right p else n.left p
theorem Tr.left_nd (t : Tr) (p : Nat) : t.left p = (t.nd p).left p := rfl
theorem Tr.right_nd (t : Tr) (p : Nat) : t.right p = (t.nd p).right p := rfl
theorem Tr.toward_nd (t : Tr) (p : Nat) (k : ByteArray) : t.toward p k = (t.nd p).toward p k := rfl
theorem Tr.beside_nd (t : Tr) (p : Nat) (k : ByteArray) : t.beside p k = (t.nd p).beside p k := rfl

theorem nd_left (n : Nd) (p b : Nat) (w : World) (hb : NodB w b p n) (h0 : 0 ≤ n.cell) (h1 : n.cell ≤ 65536) (h2 : 2 ≤ p) (h3 : p ≤ 65536) : Calls Try.prog 66 #[pt b] w fun e w' => e = .returned (n.left p).agg ∧ Fr [] w w' := by
  have hlt := lt_of_block hb
  have HF : Hid (Fr [] w (w.alloc (.cells #[.int .i64 0, .int .u64 0] 105))) := Lib.hid ((Fr.refl [] w).alloc _)
  obtain ⟨wa, hwa⟩ : ∃ wa, wa = w.alloc (.cells #[.int .i64 0, .int .u64 0] 105) := ⟨_, rfl⟩
  have e1 : IntKind.i64.wrap (n.cell + 1) = n.cell + 1 := IntWalk.i64_in _ (by omega)
  have e2 : IntKind.u64.wrap ((p : Int) - 2) = p - 2 := by rw [uw]; omega
  rw [← hwa] at HF
  obtain ⟨c0, _, _, _, _, c5⟩ := nod_cells (Fr.keep HF.out hb (by simp))
  have HB : Hid (wa.heap[w.heap.size]? = some (.cells #[.int .i64 0, .int .u64 0] 105 (0, 0))) := Lib.hid (by rw [hwa]; exact new_block w _)
  obtain ⟨b0, b1, _⟩ := cells2 HB.out
  have g0 := free_block HB.out 0
  have g1 := free_block HB.out 1
  have HWA := Lib.hid hwa
  clear hb hwa
  go_enter Try.func66, Try.ntmps66
  go_upto_region 1 with fail
  rw [← HWA.out]
  go_region
  go_wp2
  refine bodyPost_ret (v := .agg #[.int .i64 (n.cell + 1), .int .u64 (p - 2)]) (by simp [results, Try.results66, go_sem, *]) rfl ⟨rfl, ?_⟩
  exact (HF.out.drew.setCell (Or.inr (Nat.le_refl _)) _).setCell (Or.inr (Nat.le_refl _)) _
theorem nd_right (n : Nd) (p b : Nat) (w : World) (hb : NodB w b p n) (h0 : 0 ≤ n.cell) (h1 : n.cell ≤ 65536) (h2 : 2 ≤ p) (h3 : p ≤ 65536) : Calls Try.prog 67 #[pt b] w fun e w' => e = .returned (n.right p).agg ∧ Fr [] w w' := by
  have hlt := lt_of_block hb
  have HF : Hid (Fr [] w (w.alloc (.cells #[.int .i64 0, .int .u64 0] 105))) := Lib.hid ((Fr.refl [] w).alloc _)
  obtain ⟨wa, hwa⟩ : ∃ wa, wa = w.alloc (.cells #[.int .i64 0, .int .u64 0] 105) := ⟨_, rfl⟩
  have e1 : IntKind.i64.wrap (n.cell + 2) = n.cell + 2 := IntWalk.i64_in _ (by omega)
  have e2 : IntKind.u64.wrap ((p : Int) - 1) = p - 1 := by rw [uw]; omega
  rw [← hwa] at HF
  obtain ⟨c0, _, _, _, _, c5⟩ := nod_cells (Fr.keep HF.out hb (by simp))
  have HB : Hid (wa.heap[w.heap.size]? = some (.cells #[.int .i64 0, .int .u64 0] 105 (0, 0))) := Lib.hid (by rw [hwa]; exact new_block w _)
  obtain ⟨b0, b1, _⟩ := cells2 HB.out
  have g0 := free_block HB.out 0
  have g1 := free_block HB.out 1
  have HWA := Lib.hid hwa
  clear hb hwa
  go_enter Try.func67, Try.ntmps67
  go_upto_region 1 with fail
  rw [← HWA.out]
  go_region
  go_wp2
  refine bodyPost_ret (v := .agg #[.int .i64 (n.cell + 2), .int .u64 (p - 1)]) (by simp [results, Try.results67, go_sem, *]) rfl ⟨rfl, ?_⟩
  exact (HF.out.drew.setCell (Or.inr (Nat.le_refl _)) _).setCell (Or.inr (Nat.le_refl _)) _
theorem nd_toward (n : Nd) (p b : Nat) (k : ByteArray) (w : World) (hb : NodB w b p n) (h0 : 0 ≤ n.cell) (h1 : n.cell ≤ 65536) (h2 : 2 ≤ p) (h3 : p ≤ 65536) : Calls Try.prog 44 #[pt b, .string k] w fun e w' => e = .returned (n.toward p k).agg ∧ Fr [] w w' := by
  have hlt := lt_of_block hb
  have HF : Hid (Fr [] w (w.alloc (.cells #[.int .i64 0, .int .u64 0] 105))) := Lib.hid ((Fr.refl [] w).alloc _)
  obtain ⟨wa, hwa⟩ : ∃ wa, wa = w.alloc (.cells #[.int .i64 0, .int .u64 0] 105) := ⟨_, rfl⟩
  rw [← hwa] at HF
  have HN := Lib.hid (Fr.keep HF.out hb (by simp) : NodB wa b p n)
  have HB : Hid (wa.heap[w.heap.size]? = some (.cells #[.int .i64 0, .int .u64 0] 105 (0, 0))) := Lib.hid (by rw [hwa]; exact new_block w _)
  have HWA := Lib.hid hwa
  have HAB : Hid (∀ W, NodB W b p n → Calls Try.prog 65 #[pt b, .string k] W fun e w' => e = .returned (.bool (n.above k)) ∧ W = w') := Lib.hid fun W hW => nd_above n p b k W hW
  have HL : Hid (∀ W, NodB W b p n → Calls Try.prog 66 #[pt b] W fun e w' => e = .returned (n.left p).agg ∧ Fr [] W w') := Lib.hid fun W hW => nd_left n p b W hW h0 h1 h2 h3
  have HR : Hid (∀ W, NodB W b p n → Calls Try.prog 67 #[pt b] W fun e w' => e = .returned (n.right p).agg ∧ Fr [] W w') := Lib.hid fun W hW => nd_right n p b W hW h0 h1 h2 h3
  unfold Nd.toward
  obtain ⟨B, hB⟩ : ∃ B, B = n.above k := ⟨_, rfl⟩
  rw [← hB] at HAB ⊢
  obtain ⟨L, hL⟩ : ∃ L, L = n.left p := ⟨_, rfl⟩
  obtain ⟨R, hR⟩ : ∃ R, R = n.right p := ⟨_, rfl⟩
  rw [← hL] at HL ⊢
  rw [← hR] at HR ⊢
  clear hb hB hL hR hwa h0 h1 h2 h3
  obtain ⟨lc, lf⟩ := L
  obtain ⟨rc, rf⟩ := R
  unfold Br.agg at *
  dsimp only at *
  go_enter Try.func44, Try.ntmps44
  go_upto_region 1 with fail
  rw [← HWA.out]
  cases B
  · go_wp2_with (first | (go_at_call 65; refine (HAB.out _ HN.out).mono ?_; rintro e w1 ⟨rfl, rfl⟩) | (go_at_call 67; refine (HR.out _ HN.out).mono ?_; rintro e w1 ⟨rfl, hf⟩; have HF1 := Lib.hid hf; have HB1 := Lib.hid (hf.keep HB.out (by simp)); obtain ⟨b0, b1, _⟩ := cells2 HB1.out; have g0 := free_block HB1.out 0; have g1 := free_block HB1.out 1; clear hf))
    refine bodyPost_ret (v := .agg #[.int .i64 rc, .int .u64 rf]) (by simp [results, Try.results44, go_sem, *]) rfl ⟨rfl, ?_⟩
    exact ((Fr.trans (T := []) HF.out HF1.out (by simp)).setCell (Or.inr (Nat.le_refl _)) _).setCell (Or.inr (Nat.le_refl _)) _
  · go_wp2_with (first | (go_at_call 65; refine (HAB.out _ HN.out).mono ?_; rintro e w1 ⟨rfl, rfl⟩) | (go_at_call 66; refine (HL.out _ HN.out).mono ?_; rintro e w1 ⟨rfl, hf⟩; have HF1 := Lib.hid hf; have HB1 := Lib.hid (hf.keep HB.out (by simp)); obtain ⟨b0, b1, _⟩ := cells2 HB1.out; have g0 := free_block HB1.out 0; have g1 := free_block HB1.out 1; clear hf))
    refine bodyPost_ret (v := .agg #[.int .i64 lc, .int .u64 lf]) (by simp [results, Try.results44, go_sem, *]) rfl ⟨rfl, ?_⟩
    exact ((Fr.trans (T := []) HF.out HF1.out (by simp)).setCell (Or.inr (Nat.le_refl _)) _).setCell (Or.inr (Nat.le_refl _)) _
theorem nd_beside (n : Nd) (p b : Nat) (k : ByteArray) (w : World) (hb : NodB w b p n) (h0 : 0 ≤ n.cell) (h1 : n.cell ≤ 65536) (h2 : 2 ≤ p) (h3 : p ≤ 65536) : Calls Try.prog 95 #[pt b, .string k] w fun e w' => e = .returned (n.beside p k).agg ∧ Fr [] w w' := by
  have hlt := lt_of_block hb
  have HF : Hid (Fr [] w (w.alloc (.cells #[.int .i64 0, .int .u64 0] 105))) := Lib.hid ((Fr.refl [] w).alloc _)
  obtain ⟨wa, hwa⟩ : ∃ wa, wa = w.alloc (.cells #[.int .i64 0, .int .u64 0] 105) := ⟨_, rfl⟩
  rw [← hwa] at HF
  have HN := Lib.hid (Fr.keep HF.out hb (by simp) : NodB wa b p n)
  have HB : Hid (wa.heap[w.heap.size]? = some (.cells #[.int .i64 0, .int .u64 0] 105 (0, 0))) := Lib.hid (by rw [hwa]; exact new_block w _)
  have HWA := Lib.hid hwa
  have HAB : Hid (∀ W, NodB W b p n → Calls Try.prog 65 #[pt b, .string k] W fun e w' => e = .returned (.bool (n.above k)) ∧ W = w') := Lib.hid fun W hW => nd_above n p b k W hW
  have HL : Hid (∀ W, NodB W b p n → Calls Try.prog 66 #[pt b] W fun e w' => e = .returned (n.left p).agg ∧ Fr [] W w') := Lib.hid fun W hW => nd_left n p b W hW h0 h1 h2 h3
  have HR : Hid (∀ W, NodB W b p n → Calls Try.prog 67 #[pt b] W fun e w' => e = .returned (n.right p).agg ∧ Fr [] W w') := Lib.hid fun W hW => nd_right n p b W hW h0 h1 h2 h3
  unfold Nd.beside
  obtain ⟨B, hB⟩ : ∃ B, B = n.above k := ⟨_, rfl⟩
  rw [← hB] at HAB ⊢
  obtain ⟨L, hL⟩ : ∃ L, L = n.left p := ⟨_, rfl⟩
  obtain ⟨R, hR⟩ : ∃ R, R = n.right p := ⟨_, rfl⟩
  rw [← hL] at HL ⊢
  rw [← hR] at HR ⊢
  clear hb hB hL hR hwa h0 h1 h2 h3
  obtain ⟨lc, lf⟩ := L
  obtain ⟨rc, rf⟩ := R
  unfold Br.agg at *
  dsimp only at *
  go_enter Try.func95, Try.ntmps95
  go_upto_region 1 with fail
  rw [← HWA.out]
  cases B
  · go_wp2_with (first | (go_at_call 65; refine (HAB.out _ HN.out).mono ?_; rintro e w1 ⟨rfl, rfl⟩) | (go_at_call 66; refine (HL.out _ HN.out).mono ?_; rintro e w1 ⟨rfl, hf⟩; have HF1 := Lib.hid hf; have HB1 := Lib.hid (hf.keep HB.out (by simp)); obtain ⟨b0, b1, _⟩ := cells2 HB1.out; have g0 := free_block HB1.out 0; have g1 := free_block HB1.out 1; clear hf))
    refine bodyPost_ret (v := .agg #[.int .i64 lc, .int .u64 lf]) (by simp [results, Try.results95, go_sem, *]) rfl ⟨rfl, ?_⟩
    exact ((Fr.trans (T := []) HF.out HF1.out (by simp)).setCell (Or.inr (Nat.le_refl _)) _).setCell (Or.inr (Nat.le_refl _)) _
  · go_wp2_with (first | (go_at_call 65; refine (HAB.out _ HN.out).mono ?_; rintro e w1 ⟨rfl, rfl⟩) | (go_at_call 67; refine (HR.out _ HN.out).mono ?_; rintro e w1 ⟨rfl, hf⟩; have HF1 := Lib.hid hf; have HB1 := Lib.hid (hf.keep HB.out (by simp)); obtain ⟨b0, b1, _⟩ := cells2 HB1.out; have g0 := free_block HB1.out 0; have g1 := free_block HB1.out 1; clear hf))
    refine bodyPost_ret (v := .agg #[.int .i64 rc, .int .u64 rf]) (by simp [results, Try.results95, go_sem, *]) rfl ⟨rfl, ?_⟩
    exact ((Fr.trans (T := []) HF.out HF1.out (by simp)).setCell (Or.inr (Nat.le_refl _)) _).setCell (Or.inr (Nat.le_refl _)) _
theorem mk_take (X : List Nat) (x o n : Nat) (tf : Fn) (ta tb : Array Value)  (w : World) (hx : ∀ x ∈ X, x < w.heap.size) : Calls Try.prog 57 #[(pt x), (pt o), (pt n), (.func tf ta tb)] w fun e w' => (∃ p0 p1 p2 p3, e = .returned (fn 79 [p0, p1, p2, p3]) ∧ Va X w' p0 96 (pt x) ∧ Va X w' p1 115 (pt o) ∧ Va X w' p2 45 (pt n) ∧ Va X w' p3 59 (.func tf ta tb)) ∧ Fr [] w w' := by
  have F0 : Fr [] w (w.alloc (.cells #[(pt x)] 96 (0, 0))) := (Fr.refl [] _).alloc _
  have X0 : ∀ j ∈ X, j < (w.alloc (.cells #[(pt x)] 96 (0, 0))).heap.size := fun j h => Nat.lt_of_lt_of_le (hx j h) F0.size
  have V0 := Va.new X (w) 96 (pt x) (by decide) hx
  have F1 : Fr [] (w.alloc (.cells #[(pt x)] 96 (0, 0))) ((w.alloc (.cells #[(pt x)] 96 (0, 0))).alloc (.cells #[(pt o)] 115 (0, 0))) := (Fr.refl [] _).alloc _
  have X1 : ∀ j ∈ X, j < ((w.alloc (.cells #[(pt x)] 96 (0, 0))).alloc (.cells #[(pt o)] 115 (0, 0))).heap.size := fun j h => Nat.lt_of_lt_of_le (X0 j h) F1.size
  have V1 := Va.new X ((w.alloc (.cells #[(pt x)] 96 (0, 0)))) 115 (pt o) (by decide) X0
  simp only [World.size_alloc] at V1
  have F2 : Fr [] ((w.alloc (.cells #[(pt x)] 96 (0, 0))).alloc (.cells #[(pt o)] 115 (0, 0))) (((w.alloc (.cells #[(pt x)] 96 (0, 0))).alloc (.cells #[(pt o)] 115 (0, 0))).alloc (.cells #[(pt n)] 45 (0, 0))) := (Fr.refl [] _).alloc _
  have X2 : ∀ j ∈ X, j < (((w.alloc (.cells #[(pt x)] 96 (0, 0))).alloc (.cells #[(pt o)] 115 (0, 0))).alloc (.cells #[(pt n)] 45 (0, 0))).heap.size := fun j h => Nat.lt_of_lt_of_le (X1 j h) F2.size
  have V2 := Va.new X (((w.alloc (.cells #[(pt x)] 96 (0, 0))).alloc (.cells #[(pt o)] 115 (0, 0)))) 45 (pt n) (by decide) X1
  simp only [World.size_alloc] at V2
  have F3 : Fr [] (((w.alloc (.cells #[(pt x)] 96 (0, 0))).alloc (.cells #[(pt o)] 115 (0, 0))).alloc (.cells #[(pt n)] 45 (0, 0))) ((((w.alloc (.cells #[(pt x)] 96 (0, 0))).alloc (.cells #[(pt o)] 115 (0, 0))).alloc (.cells #[(pt n)] 45 (0, 0))).alloc (.cells #[(.func tf ta tb)] 59 (0, 0))) := (Fr.refl [] _).alloc _
  have X3 : ∀ j ∈ X, j < ((((w.alloc (.cells #[(pt x)] 96 (0, 0))).alloc (.cells #[(pt o)] 115 (0, 0))).alloc (.cells #[(pt n)] 45 (0, 0))).alloc (.cells #[(.func tf ta tb)] 59 (0, 0))).heap.size := fun j h => Nat.lt_of_lt_of_le (X2 j h) F3.size
  have V3 := Va.new X ((((w.alloc (.cells #[(pt x)] 96 (0, 0))).alloc (.cells #[(pt o)] 115 (0, 0))).alloc (.cells #[(pt n)] 45 (0, 0)))) 59 (.func tf ta tb) (by decide) X2
  simp only [World.size_alloc] at V3
  replace V0 := V0.keep (X := X) F1.iv0
  replace V0 := V0.keep (X := X) F2.iv0
  replace V0 := V0.keep (X := X) F3.iv0
  replace V1 := V1.keep (X := X) F2.iv0
  replace V1 := V1.keep (X := X) F3.iv0
  replace V2 := V2.keep (X := X) F3.iv0
  have HFF := Lib.hid (((F0.trans (T := []) F1 (by simp)).trans (T := []) F2 (by simp)).trans (T := []) F3 (by simp))
  have HV0 := Lib.hid V0
  have HV1 := Lib.hid V1
  have HV2 := Lib.hid V2
  have HV3 := Lib.hid V3
  clear F0 X0 V0 F1 X1 V1 F2 X2 V2 F3 X3 V3
  go_enter Try.func57, Try.ntmps57
  go_wp2
  go_ret
  exact ⟨⟨_, _, _, _, rfl, HV0.out, HV1.out, HV2.out, HV3.out⟩, HFF.out⟩
theorem mk_end (X : List Nat) (x o : Nat) (tf : Fn) (ta tb : Array Value)  (w : World) (hx : ∀ x ∈ X, x < w.heap.size) : Calls Try.prog 81 #[(pt x), (pt o), (.func tf ta tb)] w fun e w' => (∃ p0 p1 p2, e = .returned (fn 91 [p0, p1, p2]) ∧ Va X w' p0 96 (pt x) ∧ Va X w' p1 115 (pt o) ∧ Va X w' p2 59 (.func tf ta tb)) ∧ Fr [] w w' := by
  have F0 : Fr [] w (w.alloc (.cells #[(pt x)] 96 (0, 0))) := (Fr.refl [] _).alloc _
  have X0 : ∀ j ∈ X, j < (w.alloc (.cells #[(pt x)] 96 (0, 0))).heap.size := fun j h => Nat.lt_of_lt_of_le (hx j h) F0.size
  have V0 := Va.new X (w) 96 (pt x) (by decide) hx
  have F1 : Fr [] (w.alloc (.cells #[(pt x)] 96 (0, 0))) ((w.alloc (.cells #[(pt x)] 96 (0, 0))).alloc (.cells #[(pt o)] 115 (0, 0))) := (Fr.refl [] _).alloc _
  have X1 : ∀ j ∈ X, j < ((w.alloc (.cells #[(pt x)] 96 (0, 0))).alloc (.cells #[(pt o)] 115 (0, 0))).heap.size := fun j h => Nat.lt_of_lt_of_le (X0 j h) F1.size
  have V1 := Va.new X ((w.alloc (.cells #[(pt x)] 96 (0, 0)))) 115 (pt o) (by decide) X0
  simp only [World.size_alloc] at V1
  have F2 : Fr [] ((w.alloc (.cells #[(pt x)] 96 (0, 0))).alloc (.cells #[(pt o)] 115 (0, 0))) (((w.alloc (.cells #[(pt x)] 96 (0, 0))).alloc (.cells #[(pt o)] 115 (0, 0))).alloc (.cells #[(.func tf ta tb)] 59 (0, 0))) := (Fr.refl [] _).alloc _
  have X2 : ∀ j ∈ X, j < (((w.alloc (.cells #[(pt x)] 96 (0, 0))).alloc (.cells #[(pt o)] 115 (0, 0))).alloc (.cells #[(.func tf ta tb)] 59 (0, 0))).heap.size := fun j h => Nat.lt_of_lt_of_le (X1 j h) F2.size
  have V2 := Va.new X (((w.alloc (.cells #[(pt x)] 96 (0, 0))).alloc (.cells #[(pt o)] 115 (0, 0)))) 59 (.func tf ta tb) (by decide) X1
  simp only [World.size_alloc] at V2
  replace V0 := V0.keep (X := X) F1.iv0
  replace V0 := V0.keep (X := X) F2.iv0
  replace V1 := V1.keep (X := X) F2.iv0
  have HFF := Lib.hid ((F0.trans (T := []) F1 (by simp)).trans (T := []) F2 (by simp))
  have HV0 := Lib.hid V0
  have HV1 := Lib.hid V1
  have HV2 := Lib.hid V2
  clear F0 X0 V0 F1 X1 V1 F2 X2 V2
  go_enter Try.func81, Try.ntmps81
  go_wp2
  go_ret
  exact ⟨⟨_, _, _, rfl, HV0.out, HV1.out, HV2.out⟩, HFF.out⟩
theorem mk_drop (X : List Nat) (x o : Nat) (tf : Fn) (ta tb : Array Value)  (w : World) (hx : ∀ x ∈ X, x < w.heap.size) : Calls Try.prog 89 #[(pt x), (pt o), (.func tf ta tb)] w fun e w' => (∃ p0 p1 p2, e = .returned (fn 94 [p0, p1, p2]) ∧ Va X w' p0 96 (pt x) ∧ Va X w' p1 115 (pt o) ∧ Va X w' p2 59 (.func tf ta tb)) ∧ Fr [] w w' := by
  have F0 : Fr [] w (w.alloc (.cells #[(pt x)] 96 (0, 0))) := (Fr.refl [] _).alloc _
  have X0 : ∀ j ∈ X, j < (w.alloc (.cells #[(pt x)] 96 (0, 0))).heap.size := fun j h => Nat.lt_of_lt_of_le (hx j h) F0.size
  have V0 := Va.new X (w) 96 (pt x) (by decide) hx
  have F1 : Fr [] (w.alloc (.cells #[(pt x)] 96 (0, 0))) ((w.alloc (.cells #[(pt x)] 96 (0, 0))).alloc (.cells #[(pt o)] 115 (0, 0))) := (Fr.refl [] _).alloc _
  have X1 : ∀ j ∈ X, j < ((w.alloc (.cells #[(pt x)] 96 (0, 0))).alloc (.cells #[(pt o)] 115 (0, 0))).heap.size := fun j h => Nat.lt_of_lt_of_le (X0 j h) F1.size
  have V1 := Va.new X ((w.alloc (.cells #[(pt x)] 96 (0, 0)))) 115 (pt o) (by decide) X0
  simp only [World.size_alloc] at V1
  have F2 : Fr [] ((w.alloc (.cells #[(pt x)] 96 (0, 0))).alloc (.cells #[(pt o)] 115 (0, 0))) (((w.alloc (.cells #[(pt x)] 96 (0, 0))).alloc (.cells #[(pt o)] 115 (0, 0))).alloc (.cells #[(.func tf ta tb)] 59 (0, 0))) := (Fr.refl [] _).alloc _
  have X2 : ∀ j ∈ X, j < (((w.alloc (.cells #[(pt x)] 96 (0, 0))).alloc (.cells #[(pt o)] 115 (0, 0))).alloc (.cells #[(.func tf ta tb)] 59 (0, 0))).heap.size := fun j h => Nat.lt_of_lt_of_le (X1 j h) F2.size
  have V2 := Va.new X (((w.alloc (.cells #[(pt x)] 96 (0, 0))).alloc (.cells #[(pt o)] 115 (0, 0)))) 59 (.func tf ta tb) (by decide) X1
  simp only [World.size_alloc] at V2
  replace V0 := V0.keep (X := X) F1.iv0
  replace V0 := V0.keep (X := X) F2.iv0
  replace V1 := V1.keep (X := X) F2.iv0
  have HFF := Lib.hid ((F0.trans (T := []) F1 (by simp)).trans (T := []) F2 (by simp))
  have HV0 := Lib.hid V0
  have HV1 := Lib.hid V1
  have HV2 := Lib.hid V2
  clear F0 X0 V0 F1 X1 V1 F2 X2 V2
  go_enter Try.func89, Try.ntmps89
  go_wp2
  go_ret
  exact ⟨⟨_, _, _, rfl, HV0.out, HV1.out, HV2.out⟩, HFF.out⟩
theorem mk_mark (X : List Nat) (x o : Nat) (tf : Fn) (ta tb : Array Value) (ff : Fn) (fa fb : Array Value)  (w : World) (hx : ∀ x ∈ X, x < w.heap.size) : Calls Try.prog 88 #[(pt x), (pt o), (.func tf ta tb), (.func ff fa fb)] w fun e w' => (∃ p0 p1 p2 p3, e = .returned (fn 93 [p1, p0, p2, p3]) ∧ Va X w' p0 96 (pt x) ∧ Va X w' p1 115 (pt o) ∧ Va X w' p2 59 (.func tf ta tb) ∧ Va X w' p3 59 (.func ff fa fb)) ∧ Fr [] w w' := by
  have F0 : Fr [] w (w.alloc (.cells #[(pt x)] 96 (0, 0))) := (Fr.refl [] _).alloc _
  have X0 : ∀ j ∈ X, j < (w.alloc (.cells #[(pt x)] 96 (0, 0))).heap.size := fun j h => Nat.lt_of_lt_of_le (hx j h) F0.size
  have V0 := Va.new X (w) 96 (pt x) (by decide) hx
  have F1 : Fr [] (w.alloc (.cells #[(pt x)] 96 (0, 0))) ((w.alloc (.cells #[(pt x)] 96 (0, 0))).alloc (.cells #[(pt o)] 115 (0, 0))) := (Fr.refl [] _).alloc _
  have X1 : ∀ j ∈ X, j < ((w.alloc (.cells #[(pt x)] 96 (0, 0))).alloc (.cells #[(pt o)] 115 (0, 0))).heap.size := fun j h => Nat.lt_of_lt_of_le (X0 j h) F1.size
  have V1 := Va.new X ((w.alloc (.cells #[(pt x)] 96 (0, 0)))) 115 (pt o) (by decide) X0
  simp only [World.size_alloc] at V1
  have F2 : Fr [] ((w.alloc (.cells #[(pt x)] 96 (0, 0))).alloc (.cells #[(pt o)] 115 (0, 0))) (((w.alloc (.cells #[(pt x)] 96 (0, 0))).alloc (.cells #[(pt o)] 115 (0, 0))).alloc (.cells #[(.func tf ta tb)] 59 (0, 0))) := (Fr.refl [] _).alloc _
  have X2 : ∀ j ∈ X, j < (((w.alloc (.cells #[(pt x)] 96 (0, 0))).alloc (.cells #[(pt o)] 115 (0, 0))).alloc (.cells #[(.func tf ta tb)] 59 (0, 0))).heap.size := fun j h => Nat.lt_of_lt_of_le (X1 j h) F2.size
  have V2 := Va.new X (((w.alloc (.cells #[(pt x)] 96 (0, 0))).alloc (.cells #[(pt o)] 115 (0, 0)))) 59 (.func tf ta tb) (by decide) X1
  simp only [World.size_alloc] at V2
  have F3 : Fr [] (((w.alloc (.cells #[(pt x)] 96 (0, 0))).alloc (.cells #[(pt o)] 115 (0, 0))).alloc (.cells #[(.func tf ta tb)] 59 (0, 0))) ((((w.alloc (.cells #[(pt x)] 96 (0, 0))).alloc (.cells #[(pt o)] 115 (0, 0))).alloc (.cells #[(.func tf ta tb)] 59 (0, 0))).alloc (.cells #[(.func ff fa fb)] 59 (0, 0))) := (Fr.refl [] _).alloc _
  have X3 : ∀ j ∈ X, j < ((((w.alloc (.cells #[(pt x)] 96 (0, 0))).alloc (.cells #[(pt o)] 115 (0, 0))).alloc (.cells #[(.func tf ta tb)] 59 (0, 0))).alloc (.cells #[(.func ff fa fb)] 59 (0, 0))).heap.size := fun j h => Nat.lt_of_lt_of_le (X2 j h) F3.size
  have V3 := Va.new X ((((w.alloc (.cells #[(pt x)] 96 (0, 0))).alloc (.cells #[(pt o)] 115 (0, 0))).alloc (.cells #[(.func tf ta tb)] 59 (0, 0)))) 59 (.func ff fa fb) (by decide) X2
  simp only [World.size_alloc] at V3
  replace V0 := V0.keep (X := X) F1.iv0
  replace V0 := V0.keep (X := X) F2.iv0
  replace V0 := V0.keep (X := X) F3.iv0
  replace V1 := V1.keep (X := X) F2.iv0
  replace V1 := V1.keep (X := X) F3.iv0
  replace V2 := V2.keep (X := X) F3.iv0
  have HFF := Lib.hid (((F0.trans (T := []) F1 (by simp)).trans (T := []) F2 (by simp)).trans (T := []) F3 (by simp))
  have HV0 := Lib.hid V0
  have HV1 := Lib.hid V1
  have HV2 := Lib.hid V2
  have HV3 := Lib.hid V3
  clear F0 X0 V0 F1 X1 V1 F2 X2 V2 F3 X3 V3
  go_enter Try.func88, Try.ntmps88
  go_wp2
  go_ret
  exact ⟨⟨_, _, _, _, rfl, HV0.out, HV1.out, HV2.out, HV3.out⟩, HFF.out⟩
theorem mk_desc (X : List Nat) (x : Nat) (tf : Fn) (ta tb : Array Value) (lf : Fn) (la lb : Array Value)  (bc bf : Int) (w : World) (hx : ∀ x ∈ X, x < w.heap.size) : Calls Try.prog 45 #[(pt x), (.agg #[.int .i64 bc, .int .u64 bf]), (.func tf ta tb), (.func lf la lb)] w fun e w' => (∃ p0 p1 p2 p3, e = .returned (fn 68 [p0, p1, p2, p3]) ∧ Va X w' p0 96 (pt x) ∧ w'.heap[p1]? = some (.cells #[.int .i64 bc, .int .u64 bf] 105 (0, 0)) ∧ Va X w' p2 107 (.func tf ta tb) ∧ Va X w' p3 110 (.func lf la lb)) ∧ Fr [] w w' := by
  have F0 : Fr [] w (w.alloc (.cells #[(pt x)] 96 (0, 0))) := (Fr.refl [] _).alloc _
  have X0 : ∀ j ∈ X, j < (w.alloc (.cells #[(pt x)] 96 (0, 0))).heap.size := fun j h => Nat.lt_of_lt_of_le (hx j h) F0.size
  have V0 := Va.new X (w) 96 (pt x) (by decide) hx
  have F1 : Fr [] (w.alloc (.cells #[(pt x)] 96 (0, 0))) ((w.alloc (.cells #[(pt x)] 96 (0, 0))).alloc (.cells #[.int .i64 bc, .int .u64 bf] 105 (0, 0))) := (Fr.refl [] _).alloc _
  have X1 : ∀ j ∈ X, j < ((w.alloc (.cells #[(pt x)] 96 (0, 0))).alloc (.cells #[.int .i64 bc, .int .u64 bf] 105 (0, 0))).heap.size := fun j h => Nat.lt_of_lt_of_le (X0 j h) F1.size
  have V1 := new_block ((w.alloc (.cells #[(pt x)] 96 (0, 0)))) (.cells #[.int .i64 bc, .int .u64 bf] 105 (0, 0))
  simp only [World.size_alloc] at V1
  have F2 : Fr [] ((w.alloc (.cells #[(pt x)] 96 (0, 0))).alloc (.cells #[.int .i64 bc, .int .u64 bf] 105 (0, 0))) (((w.alloc (.cells #[(pt x)] 96 (0, 0))).alloc (.cells #[.int .i64 bc, .int .u64 bf] 105 (0, 0))).alloc (.cells #[(.func tf ta tb)] 107 (0, 0))) := (Fr.refl [] _).alloc _
  have X2 : ∀ j ∈ X, j < (((w.alloc (.cells #[(pt x)] 96 (0, 0))).alloc (.cells #[.int .i64 bc, .int .u64 bf] 105 (0, 0))).alloc (.cells #[(.func tf ta tb)] 107 (0, 0))).heap.size := fun j h => Nat.lt_of_lt_of_le (X1 j h) F2.size
  have V2 := Va.new X (((w.alloc (.cells #[(pt x)] 96 (0, 0))).alloc (.cells #[.int .i64 bc, .int .u64 bf] 105 (0, 0)))) 107 (.func tf ta tb) (by decide) X1
  simp only [World.size_alloc] at V2
  have F3 : Fr [] (((w.alloc (.cells #[(pt x)] 96 (0, 0))).alloc (.cells #[.int .i64 bc, .int .u64 bf] 105 (0, 0))).alloc (.cells #[(.func tf ta tb)] 107 (0, 0))) ((((w.alloc (.cells #[(pt x)] 96 (0, 0))).alloc (.cells #[.int .i64 bc, .int .u64 bf] 105 (0, 0))).alloc (.cells #[(.func tf ta tb)] 107 (0, 0))).alloc (.cells #[(.func lf la lb)] 110 (0, 0))) := (Fr.refl [] _).alloc _
  have X3 : ∀ j ∈ X, j < ((((w.alloc (.cells #[(pt x)] 96 (0, 0))).alloc (.cells #[.int .i64 bc, .int .u64 bf] 105 (0, 0))).alloc (.cells #[(.func tf ta tb)] 107 (0, 0))).alloc (.cells #[(.func lf la lb)] 110 (0, 0))).heap.size := fun j h => Nat.lt_of_lt_of_le (X2 j h) F3.size
  have V3 := Va.new X ((((w.alloc (.cells #[(pt x)] 96 (0, 0))).alloc (.cells #[.int .i64 bc, .int .u64 bf] 105 (0, 0))).alloc (.cells #[(.func tf ta tb)] 107 (0, 0)))) 110 (.func lf la lb) (by decide) X2
  simp only [World.size_alloc] at V3
  replace V0 := V0.keep (X := X) F1.iv0
  replace V0 := V0.keep (X := X) F2.iv0
  replace V0 := V0.keep (X := X) F3.iv0
  replace V1 := F2.keep V1 (by simp)
  replace V1 := F3.keep V1 (by simp)
  replace V2 := V2.keep (X := X) F3.iv0
  have HFF := Lib.hid (((F0.trans (T := []) F1 (by simp)).trans (T := []) F2 (by simp)).trans (T := []) F3 (by simp))
  have HV0 := Lib.hid V0
  have HV1 := Lib.hid V1
  have HV2 := Lib.hid V2
  have HV3 := Lib.hid V3
  clear F0 X0 V0 F1 X1 V1 F2 X2 V2 F3 X3 V3
  go_enter Try.func45, Try.ntmps45
  go_wp2
  go_ret
  exact ⟨⟨_, _, _, _, rfl, HV0.out, HV1.out, HV2.out, HV3.out⟩, HFF.out⟩
theorem mk_look (X : List Nat) (x : Nat)  (w : World) (hx : ∀ x ∈ X, x < w.heap.size) : Calls Try.prog 78 #[(pt x)] w fun e w' => (∃ p0, e = .returned (fn 90 [p0]) ∧ Va X w' p0 111 (pt x)) ∧ Fr [] w w' := by
  have F0 : Fr [] w (w.alloc (.cells #[(pt x)] 111 (0, 0))) := (Fr.refl [] _).alloc _
  have X0 : ∀ j ∈ X, j < (w.alloc (.cells #[(pt x)] 111 (0, 0))).heap.size := fun j h => Nat.lt_of_lt_of_le (hx j h) F0.size
  have V0 := Va.new X (w) 111 (pt x) (by decide) hx
  have HFF := Lib.hid F0
  have HV0 := Lib.hid V0
  clear F0 X0 V0
  go_enter Try.func78, Try.ntmps78
  go_wp2
  go_ret
  exact ⟨⟨_, rfl, HV0.out⟩, HFF.out⟩
theorem mk_down (X : List Nat) (x : Nat)  (w : World) (hx : ∀ x ∈ X, x < w.heap.size) : Calls Try.prog 76 #[(pt x)] w fun e w' => (∃ p0, e = .returned (fn 86 [p0]) ∧ Va X w' p0 111 (pt x)) ∧ Fr [] w w' := by
  have F0 : Fr [] w (w.alloc (.cells #[(pt x)] 111 (0, 0))) := (Fr.refl [] _).alloc _
  have X0 : ∀ j ∈ X, j < (w.alloc (.cells #[(pt x)] 111 (0, 0))).heap.size := fun j h => Nat.lt_of_lt_of_le (hx j h) F0.size
  have V0 := Va.new X (w) 111 (pt x) (by decide) hx
  have HFF := Lib.hid F0
  have HV0 := Lib.hid V0
  clear F0 X0 V0
  go_enter Try.func76, Try.ntmps76
  go_wp2
  go_ret
  exact ⟨⟨_, rfl, HV0.out⟩, HFF.out⟩
end Go.Proofs.Ytmhiolhgofackaa
