/- impostlaw15.ran: contract; Run's, New's and Do's as the laws want them -/
import Derived.Test.YthiobdhdefimhaaBsAwake
import Derived.Test.YthiobdhdefimhaaBsLaw
namespace Go.Proofs.Ythiobdhdefimhaa
open Go.RowKit
set_option linter.unusedVariables false
set_option linter.unusedSimpArgs false

theorem mem0 (W : World) : Calls Try.prog 8 #[.int .i64 0] W fun e w' => ∃ mb, e = .returned (pt mb) ∧ Hid (∃ mv, MemAt w' mb mv ⟨[], 0⟩ ∧ Fr [] W w' ∧ W.heap.size ≤ mb ∧ ∀ k, mv.ownBlock = some k → W.heap.size ≤ k) := (new_any W 0).mono fun e w' h => by
  unfold MadeMem at h
  rw [if_pos (by decide)] at h
  obtain ⟨p, v, h1, h2, h3, h4, h5⟩ := h
  exact ⟨p, h1, Lib.hid ⟨v, h2, h3, h4, h5⟩⟩
theorem tree0 {w0 u0 u1 : World} {mb : Nat} (h0 : Fr [] w0 u0) (h : ∃ mv, MemAt u1 mb mv ⟨[], 0⟩ ∧ Fr [] u0 u1 ∧ u0.heap.size ≤ mb ∧ ∀ k, mv.ownBlock = some k → u0.heap.size ≤ k) : Calls Try.prog 7 #[pt mb] u1 fun e w' => ∃ tb, e = .returned (pt tb) ∧ Hid (Mine w0 w' tb mb (fun _ => none) 0 []) := by
  obtain ⟨mv, h1, h2, h3, h4⟩ := h
  exact mine_New h1 (h0.trans h2 (by simp)) (Nat.le_trans h0.size h3) (fun k hk => Nat.le_trans h0.size (h4 k hk))
set_option maxRecDepth 20000 in
set_option maxHeartbeats 4000000 in
theorem bs_ran (lv : Value) (l : List De) (w : World) (hl : DeIn w lv l) : Calls Try.prog 16 #[lv] w fun e w' => ∃ tb mb x n, e = .returned (.tuple #[pt tb, pt mb]) ∧ n ≤ 60 ∧ Mine w w' tb mb x n [] := by
  obtain ⟨s1, c1, rfl, la, ma⟩ := LIn.form hl
  unfold maxLen at ma
  have HL := Lib.hid hl
  clear hl
  have HBG : Hid (∀ (W : World) (tb mb : Nat) (x : Hold) (n : Nat), Hid (Mine w W tb mb x n []) → n ≤ 60 → ∀ (kind : Int) (k : ByteArray) (v : Int), Calls Try.prog 10 #[pt tb, .agg #[.int .i64 kind, .string k, .int .u64 v]] W fun e w' => ∃ p, e = .returned (pt p) ∧ Hid (∃ x' r, RunsM w w' tb mb p x' (n + 1) r [])) := Lib.hid fun W tb mb x n h hn kind k v => (mine_begun h.out (by omega) kind k v).mono fun e w' ⟨p, h1, h2⟩ => ⟨p, h1, Lib.hid ⟨_, _, h2.out⟩⟩
  go_enter Try.func16, Try.ntmps16
  go_wp2_with (go_at_call 8; refine (mem0 w).mono ?_; rintro e u1 ⟨mb, rfl, HM⟩; refine go_stop ?_)
  unfold Stop
  have HT := Lib.hid (tree0 (Fr.refl [] w) HM.out)
  go_wp2_with (go_at_call 7; refine HT.out.mono ?_; rintro e u2 ⟨tb, rfl, M2⟩; refine go_stop ?_)
  unfold Stop
  clear HM HT
  go_wp2_with fail
  go_loopw [6] (fun i wr => ∃ (j : Nat) (x : Hold), i = .int .i64 j ∧ j ≤ l.length ∧ j ≤ 60 ∧ Mine w wr tb mb x j []) (fun i _ => l.length - (intOf i).toNat)
  case atStart => exact ⟨0, _, rfl, Nat.zero_le _, by omega, M2.out⟩
  case round =>
    obtain ⟨j, x, rfl, hj, hj6, hm⟩ := hrel
    have HM := Lib.hid hm
    clear hm
    by_cases h : j < l.length
    · have t0 : decide ((j : Int) < (l.length : Int)) = true := decide_eq_true (by omega)
      by_cases h2 : j < 60
      · have t1 : decide ((j : Int) < (60 : Int)) = true := decide_eq_true (by omega)
        obtain ⟨d, hd⟩ : ∃ d, l[j]? = some d := ⟨_, List.getElem?_eq_getElem h⟩
        obtain ⟨g, off, d1, e1, l0, l1, k1⟩ := DeIn.here (LIn.keep0 HL.out HM.out.fr) (by omega)
        simp only [Value.slice.injEq] at e1
        obtain ⟨rfl, _, rfl⟩ := e1
        obtain ⟨p0, p1, p2⟩ := k1 j d hd
        clear k1 hd
        go_wp2_with (go_at_call 10; refine (HBG.out _ tb mb x j HM hj6 _ _ _).mono ?_; rintro e u3 ⟨p, rfl, HR⟩; refine go_stop ?_)
        unfold Stop
        have hr := HR.out
        obtain ⟨x', r, hr⟩ := hr
        have HR2 := Lib.hid hr
        clear hr HR
        go_wp2_with (go_at_call 9; refine (HR2.out _ (Fr.refl [] _)).mono ?_; rintro e u4 ⟨rfl, M4⟩; refine go_stop ?_)
        unfold Stop
        go_wp2_with fail
        go_roundw
        case rel => exact ⟨j + 1, x', by go_num, by omega, by omega, M4.out⟩
        case measure => simp [intOf]; omega
      · have t1 : decide ((j : Int) < (60 : Int)) = false := decide_eq_false (by omega)
        go_wp2_with fail
        go_ret2
        exact ⟨tb, mb, x, j, rfl, hj6, HM.out⟩
    · have t0 : decide ((j : Int) < (l.length : Int)) = false := decide_eq_false (by omega)
      go_wp2_with fail
      go_ret2
      exact ⟨tb, mb, x, j, rfl, hj6, HM.out⟩
theorem Mine.rowIn {α : Type} {cs : α → List Value} {sz : Nat} {w0 w : World} {tb mb : Nat} {x : Hold} {n : Nat} {K : List (Nat × Obj)} {v : Value} {l : List α} (h : Mine w0 w tb mb x n K) (hr : RowK cs sz K v l) : LIn cs sz w v l := by
  obtain ⟨A, _, _, _, _, _, h6⟩ := h
  exact hr w (fun p hp => (h6 p hp).1)
theorem EntIn.uniq {w : World} {v : Value} {l r : List Ent} (h : EntIn w v l) (g : EntIn w v r) : l = r := by
  obtain ⟨s1, c1, e1, _⟩ := LIn.form h
  obtain ⟨s2, c2, e2, _⟩ := LIn.form g
  have hlen : l.length = r.length := by rw [e1] at e2; simp only [Value.slice.injEq] at e2; exact e2.2.1
  by_cases hn : 0 < l.length
  · obtain ⟨g1, o1, d1, f1, _, _, k1⟩ := h.here hn
    obtain ⟨g2, o2, d2, f2, _, _, k2⟩ := g.here (by omega)
    rw [f1] at f2
    simp only [Value.slice.injEq, Option.some.injEq, Addr.mk.injEq, and_true] at f2
    obtain ⟨⟨rfl, rfl⟩, _, _⟩ := f2
    refine List.ext_getElem? (fun i => ?_)
    by_cases hi : i < l.length
    · have x1 : l[i]? = some l[i] := List.getElem?_eq_getElem hi
      have x2 : r[i]? = some (r[i]'(by omega)) := List.getElem?_eq_getElem (by omega)
      obtain ⟨a1, b1⟩ := k1 i _ x1
      obtain ⟨a2, b2⟩ := k2 i _ x2
      rw [a1] at a2
      rw [b1] at b2
      simp only [Option.some.injEq, Value.string.injEq] at a2
      simp only [Option.some.injEq, Value.int.injEq, true_and] at b2
      rw [x1, x2]
      congr 1
      cases hx : l[i]; cases hy : r[i]
      rw [hx, hy] at a2 b2
      dsimp only at a2 b2
      rw [a2, b2]
    · rw [List.getElem?_eq_none (by omega), List.getElem?_eq_none (by omega)]
  · have h1 : l = [] := List.length_eq_zero_iff.1 (by omega)
    have h2 : r = [] := List.length_eq_zero_iff.1 (by omega)
    rw [h1, h2]
theorem Mine.didE {w0 W w : World} {tb mb : Nat} {x : Hold} {n : Nat} {K : List (Nat × Obj)} {lv rv : Value} {es es' : List Ent} (hm : Mine w0 W tb mb x n K) (hr : RowK Ent.cells 2 K lv es) (hf : Fr [] W w) (hv : EntIn w rv es') (hn : rv = lv ∨ ∀ k, rv.ownBlock = some k → W.heap.size ≤ k) : ∃ K', RowK Ent.cells 2 K' rv es' ∧ Mine w0 w tb mb x n (K' ++ K) := by
  rcases hn with rfl | hn
  · have he : es' = es := EntIn.uniq hv (LIn.keep0 (hm.rowIn hr) hf)
    subst he
    exact ⟨K, hr, (hm.keep0 hf).sub (fun p hp => by simpa using hp)⟩
  · exact hm.row hf hv hn
theorem Mine.before {w0 W w : World} {tb mb : Nat} {x : Hold} {n : Nat} {K : List (Nat × Obj)} (h : Mine W w tb mb x n K) (hf : Fr [] w0 W) : Mine w0 w tb mb x n K := by
  obtain ⟨A, h1, h2, h3, h4, h5, h6⟩ := h
  exact ⟨A, h1, h2, h3, hf.trans h4 (by simp), fun y hy => Nat.le_trans hf.size (h5 y hy), h6⟩
theorem fr_c {a b c : World} (h : Fr [] a b) (g : Fr [] b c) : Fr [] a c := h.trans g (by simp)
theorem cells_an {w : World} {b : Nat} {r : An} (h : w.heap[b]? = some (anO r)) : w.cell? ⟨b, 0, none⟩ = some (.bool r.ok) ∧ w.cell? ⟨b, 1, none⟩ = some (.string r.key) ∧ w.cell? ⟨b, 2, none⟩ = some (.int .u64 r.val) ∧ w.cell? ⟨b, 3, none⟩ = some (.int .i64 r.err) := by
  obtain ⟨a0, a1, a2, a3, _⟩ := cells4 h
  exact ⟨a0, a1, a2, a3⟩
end Go.Proofs.Ythiobdhdefimhaa
