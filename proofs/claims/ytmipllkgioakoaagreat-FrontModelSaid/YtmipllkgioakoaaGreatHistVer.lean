/- GENERIC: PIECES OF A ROW THAT IS READ
PACKAGE slices: Clone of events: contracts
PACKAGE hist: a key's versions, gone through backward: contracts of backward, at, from -/
import Derived.Test.YtmipllkgioakoaaGreatIn
import Derived.Test.YtmipllkgioakoaaGreatEvSel
import Derived.WalkSpells
import Derived.Test.YtmipllkgioakoaaGreatRangeF
import Derived.Test.YtmipllkgioakoaaGreatEvAt
namespace Go.Proofs.YtmipllkgioakoaaGreat
open Go.RowKit
set_option linter.unusedVariables false
set_option linter.unusedSimpArgs false

/-! pieces of a row that is read -/
theorem LIn.take {α : Type} {cs : α → List Value} {sz : Nat} {w : World} {s : Option Addr} {c n k : Nat} {l : List α} (h : LIn cs sz w (.slice s n c) l) (hk : k ≤ l.length) : LIn cs sz w (.slice s k c) (l.take k) := by
  obtain ⟨a, c', h1, h2, h3, h4⟩ := h
  cases h1
  have hlen : (l.take k).length = k := by rw [List.length_take]; omega
  refine ⟨s, c, by rw [hlen], by omega, h3, fun hl => ?_⟩
  obtain ⟨g, off, h5, h6, h7⟩ := h4 (by omega)
  refine ⟨g, off, h5, h6, fun i x hx j hj => h7 i x ?_ j hj⟩
  rw [List.getElem?_take] at hx
  split at hx
  · exact hx
  · cases hx
theorem LIn.drop {α : Type} {cs : α → List Value} {sz : Nat} {w : World} {g off off' c n k m : Nat} {l : List α} (h : LIn cs sz w (.slice (some ⟨g, off, none⟩) n c) l) (hm : l.length = m + k) (ho : CutAt off k sz c off') (hg : g < w.heap.size) : LIn cs sz w (.slice (some ⟨g, off', none⟩) m (c - k)) (l.drop k) := by
  obtain ⟨a, c', h1, h2, h3, h4⟩ := h
  cases h1
  have hlen : (l.drop k).length = m := by rw [List.length_drop]; omega
  refine ⟨_, c - k, by rw [hlen], by omega, by omega, fun hl => ⟨g, off', rfl, hg, fun i x hx j hj => ?_⟩⟩
  obtain ⟨g', off2, h5, h6, h7⟩ := h4 (by omega)
  cases h5
  rcases ho with rfl | ⟨rfl, rfl⟩
  · have := h7 (k + i) x (by rw [List.getElem?_drop] at hx; exact hx) j hj
    rw [← this]
    congr 2
    rw [Nat.add_mul]; omega
  · omega
end Go.Proofs.YtmipllkgioakoaaGreat
namespace Go.Proofs.YtmipllkgioakoaaGreat
open Go.RowKit
set_option linter.unusedVariables false
set_option linter.unusedSimpArgs false

theorem ver_slice : Tryz.prog.underlying 75 = some (.slice 63) := Tryz.underlying75
set_option maxRecDepth 100000 in
theorem clone_ev (v : Value) (l : List Ev) (w : World) (hl : EvIn w v l) (bl : l.length ≤ 4000000000) : Calls Tryz.prog 37 #[v] w fun e w' => ∃ v', e = .returned v' ∧ OutAt Ev.cells 63 4 w w' v' l ∧ Fr [] w w' := by
  obtain ⟨s1, c1, rfl, la, ma⟩ := hl.form
  unfold maxLen at ma
  have HL := Lib.hid hl
  have heq := fun a n c w => Lib.run_eql_slice_nil (P := Tryz.prog) w 50 63 a n c 0 0 (by first | exact ev_slice | exact ver_slice)
  cases s1 with
  | none =>
    have h0 : l.length = 0 := by
      rcases Nat.eq_zero_or_pos l.length with h | h
      · exact h
      · obtain ⟨g, off, c, hc, _⟩ := hl.here h; cases hc
    obtain rfl := List.eq_nil_of_length_eq_zero h0
    clear hl h0 la ma bl HL
    go_enter Tryz.func37, Tryz.ntmps37
    go_wp2
    go_ret
    exact ⟨_, rfl, OutAt.nil _ _, Fr.refl _ _⟩
  | some ad =>
    clear hl
    go_enter Tryz.func37, Tryz.ntmps37
    go_wp2_with (at_builtin; refine wpList_append_src rfl (.tmp 5) (.tmp 6) 50 63 (.agg #[.int .i64 0, .string ⟨#[]⟩, .string ⟨#[]⟩, .bool false]) 4 48 rfl (by first | exact ev_slice | exact ver_slice) ev_info rfl (by decide) (.slice (some ⟨w.heap.size, 0, none⟩) 0 0) 0 [] rfl (lies_empty w 63 4 _ rfl) (.slice (some ad) l.length c1) l.length (allC Ev.cells l) rfl (LIn.src (LIn.keep0 HL.out ((Fr.refl [] w).alloc (.cells #[] 63))) Ev.clen (by decide)) (allC_ones Ev.cone l) (by unfold maxLen; omega) (by omega) ?ap)
    case ap =>
    intro v' w' h1 h2 h3
    have HO : Hid (OutAt Ev.cells 63 4 w w' v' l) := Lib.hid ⟨h1, fun k hk => by
        rcases h3 k hk with h4 | h4
        · simp [Value.ownBlock] at h4; omega
        · omega⟩
    have HF : Hid (Fr [] w w') := Lib.hid (((Fr.refl [] w).alloc (.cells #[] 63)).trans h2 (by simp [Value.ownBlock]))
    clear h1 h2 h3
    go_wp2
    go_ret
    exact ⟨_, rfl, HO.out, HF.out⟩
set_option maxRecDepth 100000 in
theorem clone_ver (v : Value) (l : List Ev) (w : World) (hl : EvIn w v l) (bl : l.length ≤ many) : Calls Tryz.prog 72 #[v] w fun e w' => ∃ v', e = .returned v' ∧ OutAt Ev.cells 63 4 w w' v' l ∧ Fr [] w w' := by
  unfold many at bl
  obtain ⟨s1, c1, rfl, la, ma⟩ := hl.form
  unfold maxLen at ma
  have HL := Lib.hid hl
  have heq := fun a n c w => Lib.run_eql_slice_nil (P := Tryz.prog) w 75 63 a n c 0 0 (by first | exact ev_slice | exact ver_slice)
  cases s1 with
  | none =>
    have h0 : l.length = 0 := by
      rcases Nat.eq_zero_or_pos l.length with h | h
      · exact h
      · obtain ⟨g, off, c, hc, _⟩ := hl.here h; cases hc
    obtain rfl := List.eq_nil_of_length_eq_zero h0
    clear hl h0 la ma bl HL
    go_enter Tryz.func72, Tryz.ntmps72
    go_wp2
    go_ret
    exact ⟨_, rfl, OutAt.nil _ _, Fr.refl _ _⟩
  | some ad =>
    clear hl
    go_enter Tryz.func72, Tryz.ntmps72
    go_wp2_with (at_builtin; refine wpList_append_src rfl (.tmp 5) (.tmp 6) 75 63 (.agg #[.int .i64 0, .string ⟨#[]⟩, .string ⟨#[]⟩, .bool false]) 4 48 rfl (by first | exact ev_slice | exact ver_slice) ev_info rfl (by decide) (.slice (some ⟨w.heap.size, 0, none⟩) 0 0) 0 [] rfl (lies_empty w 63 4 _ rfl) (.slice (some ad) l.length c1) l.length (allC Ev.cells l) rfl (LIn.src (LIn.keep0 HL.out ((Fr.refl [] w).alloc (.cells #[] 63))) Ev.clen (by decide)) (allC_ones Ev.cone l) (by unfold maxLen; omega) (by omega) ?ap)
    case ap =>
    intro v' w' h1 h2 h3
    have HO : Hid (OutAt Ev.cells 63 4 w w' v' l) := Lib.hid ⟨h1, fun k hk => by
        rcases h3 k hk with h4 | h4
        · simp [Value.ownBlock] at h4; omega
        · omega⟩
    have HF : Hid (Fr [] w w') := Lib.hid (((Fr.refl [] w).alloc (.cells #[] 63)).trans h2 (by simp [Value.ownBlock]))
    clear h1 h2 h3
    go_wp2
    go_ret
    exact ⟨_, rfl, HO.out, HF.out⟩
end Go.Proofs.YtmipllkgioakoaaGreat
namespace Go.Proofs.YtmipllkgioakoaaGreat
open Go.RowKit Go.Shelf
set_option linter.unusedVariables false
set_option linter.unusedSimpArgs false
attribute [local go_sem] Oper.semAt_some

set_option maxRecDepth 100000 in
set_option maxHeartbeats 2000000 in
theorem back_in (F : Fence) (n : Nat) (hF : F.fn 50) (hro : F.round = none) (hn : 1 ≤ n) (v : Value) (l : List Ev) (hb : l.length ≤ many) :
    Seqs F n Tryz.prog 50 #[v] Ev.agg l.reverse (fun W => EvIn W v l) := by
  intro lp J Jx W hRd hY h0
  unfold many at hb
  obtain ⟨s1, c1, rfl, la, ma⟩ := (hRd 0 W h0).form
  unfold maxLen at ma
  have HR := Lib.hid hRd
  have HY := Lib.hid hY
  clear hRd hY
  refine callsIn_of_wp Tryz.func50 rfl hF ?_ hro
  simp only [Tryz.ntmps50, List.size_toArray, List.length_cons, List.length_nil, Nat.reduceAdd, Nat.reduceSub, Array.replicate_succ, Array.replicate_zero, List.push_toArray, List.append_toArray, List.nil_append, List.cons_append]
  gi_wp2
  gi_loopw [4] (fun i wr => ∃ k j : Nat, k + j = l.length ∧ i = .int .i64 ((k : Int) - 1) ∧ J j wr) (fun i _ => (intOf i + 1).toNat)
  case atStart => exact ⟨l.length, 0, by omega, by go_num, h0⟩
  case round =>
    obtain ⟨k, j, hkj, rfl, hJ⟩ := hrel
    cases k with
    | zero =>
      gi_wp2
      go_end0
      exact ⟨⟨_, rfl⟩, Or.inl (by rw [List.length_reverse, ← hkj, Nat.zero_add]; exact hJ)⟩
    | succ m =>
      obtain ⟨x, hx⟩ : ∃ x, l[m]? = some x := ⟨_, List.getElem?_eq_getElem (by omega)⟩
      have hr : l.reverse[j]? = some x := by rw [List.getElem?_reverse (by omega), ← hx]; congr 1; omega
      obtain ⟨g, off, d1, e1, _, l1, k1⟩ := EvIn.here (HR.out j wr hJ) (by omega)
      simp only [Value.slice.injEq] at e1
      obtain ⟨rfl, _, rfl⟩ := e1
      obtain ⟨p0, p1, p2, p3⟩ := k1 m x hx
      have hjl : j < l.reverse.length := by rw [List.length_reverse]; omega
      obtain ⟨fn, tmps, assign, body, hy, hR⟩ := HY.out j x wr hJ hr
      unfold Ev.agg at hy
      clear k1 hx hr
      rw [show ((m + 1 : Nat) : Int) - 1 = (m : Int) by omega]
      gi_wp2
      refine hR.mono ?_
      rintro e W3 (⟨rfl, hJ3⟩ | ⟨rfl, hJ3⟩)
      · gi_wp2
        go_roundw
        case rel => exact ⟨m, j + 1, by omega, by go_num, hJ3⟩
        case measure => simp [intOf]
      · gi_wp2
        refine bodyPost_ret (results_none rfl _ _ _) rfl ?_
        exact ⟨⟨_, rfl⟩, Or.inr ⟨j, hjl, hJ3⟩⟩

theorem set4_block {w : World} {b : Nat} {a0 a1 a2 a3 : Value} {t : TypeId} {f : Nat × Nat} (h : w.heap[b]? = some (.cells #[a0, a1, a2, a3] t f)) (v0 v1 v2 v3 : Value) :
    ((((w.setCell ⟨b, 0, none⟩ v0).setCell ⟨b, 1, none⟩ v1).setCell ⟨b, 2, none⟩ v2).setCell ⟨b, 3, none⟩ v3).heap[b]? = some (.cells #[v0, v1, v2, v3] t f) := by
  have h3 := set_block (set_block (set_block (set_block h 0 v0) 1 v1) 2 v2) 3 v3
  simpa using h3
theorem set4_other {w : World} {b c : Nat} {o : Obj} (h : w.heap[c]? = some o) (hn : c ≠ b) (v0 v1 v2 v3 : Value) :
    ((((w.setCell ⟨b, 0, none⟩ v0).setCell ⟨b, 1, none⟩ v1).setCell ⟨b, 2, none⟩ v2).setCell ⟨b, 3, none⟩ v3).heap[c]? = some o :=
  set_other (set_other (set_other (set_other h hn 0 v0) hn 1 v1) hn 2 v2) hn 3 v3
theorem set4_keeps (w : World) (b : Nat) (v0 v1 v2 v3 : Value) : KeepsOthers w ((((w.setCell ⟨b, 0, none⟩ v0).setCell ⟨b, 1, none⟩ v1).setCell ⟨b, 2, none⟩ v2).setCell ⟨b, 3, none⟩ v3) :=
  (((KeepsOthers.setCell _ _ _).trans (KeepsOthers.setCell _ _ _)).trans (KeepsOthers.setCell _ _ _)).trans (KeepsOthers.setCell _ _ _)
theorem find_at {α : Type} {p : α → Bool} : ∀ {l : List α} {j : Nat} {x : α}, l[j]? = some x → p x = true → (∀ i, i < j → ∀ y, l[i]? = some y → p y = false) → l.find? p = some x
  | [], j, x, h, _, _ => by simp at h
  | a :: r, 0, x, h, hp, _ => by simp at h; subst h; simp [hp]
  | a :: r, j + 1, x, h, hp, hn => by
    have h0 := hn 0 (by omega) a (by simp)
    rw [List.find?_cons_of_neg (by simp [h0])]
    exact find_at (by simpa using h) hp (fun i hi y hy => hn (i + 1) (by omega) y (by simpa using hy))
theorem find_no {α : Type} {p : α → Bool} {l : List α} (h : ∀ i, i < l.length → ∀ y, l[i]? = some y → p y = false) : l.find? p = none := by
  rw [List.find?_eq_none]
  intro x hx
  obtain ⟨i, hi⟩ := List.mem_iff_getElem?.1 hx
  have := h i (List.getElem?_eq_some_iff.1 hi).1 x hi
  simp [this]
/-- a key's version at a revision -/
def atV (l : List Ev) (rev : Int) : Option Ev := l.reverse.find? (fun e => decide (e.rev ≤ rev))
def Ev.zero : Ev := ⟨0, ⟨#[]⟩, ⟨#[]⟩, false, by decide, by decide⟩
set_option maxRecDepth 100000 in
set_option maxHeartbeats 2000000 in
theorem ver_at (v : Value) (l : List Ev) (rev : Int) (w : World) (hl : EvIn w v l) (hb : l.length ≤ many) : Calls Tryz.prog 28 #[v, .int .i64 rev] w fun e w' =>
    e = .returned (.tuple #[((atV l rev).getD Ev.zero).agg, .bool (atV l rev).isSome]) ∧ Fr [] w w' := by
  have hmf : ∀ (fn : Fn) (first cap : Array Value) (w : World), (Instr.makeFunc fn first cap).run Tryz.prog w = .ok (.func fn first cap) w := fun fn first cap w => rfl
  refine (callsIn_wide (n := 9)).1 ?_
  refine callsIn_of_wp_marks Tryz.func28 rfl trivial ?_ rfl
  simp only [Tryz.ntmps28, List.size_toArray, List.length_cons, List.length_nil, Nat.reduceAdd, Nat.reduceSub, Array.replicate_succ, Array.replicate_zero, List.push_toArray, List.append_toArray, List.nil_append, List.cons_append]
  gi_wp2
  obtain ⟨b0, b1, b2, hf0⟩ := three_boxes (S := []) (w := w) (a := .cells #[.int .i64 rev] 3) (b := .cells #[.int .i64 0, .string ⟨#[]⟩, .string ⟨#[]⟩, .bool false] 63) (c := .cells #[.bool false] 4) (by simp) (Fr.refl [] _)
  generalize ((w.alloc (.cells #[.int .i64 rev] 3)).alloc (.cells #[.int .i64 0, .string ⟨#[]⟩, .string ⟨#[]⟩, .bool false] 63)).alloc (.cells #[.bool false] 4) = w3 at *
  have hs0 := hf0.size
  have hs3 : w.heap.size + 1 + 1 < w3.heap.size := lt_of_block b2
  refine wpIn_range_seq (xs := l.reverse) (enc := Ev.agg) (Rd := fun W => EvIn W v l) rfl (by decide) rfl trivial (enters_of Tryz.func50 (by kernel_rfl) rfl) (back_in _ 8 trivial rfl (by decide) v l hb) rfl
    (fun j W => ((Fr [] w W ∧ W.heap[w.heap.size]? = some (.cells #[.int .i64 rev] 3 (0, 0))) ∧ (W.heap[w.heap.size + 1]? = some (.cells #[.int .i64 0, .string ⟨#[]⟩, .string ⟨#[]⟩, .bool false] 63 (0, 0)) ∧ W.heap[w.heap.size + 1 + 1]? = some (.cells #[.bool false] 4 (0, 0)))) ∧ ∀ i, i < j → ∀ y, l.reverse[i]? = some y → ¬ y.rev ≤ rev)
    (fun c j W => (Fr [] w W ∧ (W.heap[w.heap.size + 1]? = some (.cells #[.int .i64 (l.reverse.getD j Ev.zero).rev, .string (l.reverse.getD j Ev.zero).key, .string (l.reverse.getD j Ev.zero).val, .bool (l.reverse.getD j Ev.zero).del] 63 (0, 0)) ∧ W.heap[w.heap.size + 1 + 1]? = some (.cells #[.bool true] 4 (0, 0)))) ∧ (c = .ret ∧ (l.reverse.getD j Ev.zero).rev ≤ rev ∧ ∀ i, i < j → ∀ y, l.reverse[i]? = some y → ¬ y.rev ≤ rev))
    (fun j => (((Abides.fr hs0).and (Abides.cells _ _ _ _ _)).and ((Abides.cells _ _ _ _ _).and (Abides.cells _ _ _ _ _))).and (Abides.pure _ _))
    (fun c j => ((Abides.fr hs0).and ((Abides.cells _ _ _ _ _).and (Abides.cells _ _ _ _ _))).and (Abides.pure _ _))
    (fun j W h => hl.keep0 h.1.1.1)
    (fun o o' => ⟨⟨⟨(hf0.alloc _).alloc _, blk_alloc (blk_alloc b0 _) _⟩, blk_alloc (blk_alloc b1 _) _, blk_alloc (blk_alloc b2 _) _⟩, by intro i hi; omega⟩) ?round ?done ?stop
  case round =>
    rintro lp j x W hlp ⟨⟨⟨hf, c0⟩, c1, c2⟩, hall⟩ hx
    unfold Ev.agg
    have hsz := hf.size
    have hlt := lt_of_block c2
    have hgd : l.reverse.getD j Ev.zero = x := by rw [List.getD_eq_getElem?_getD, hx]; rfl
    rw [hgd]
    have HALL := Lib.hid hall
    have HX := Lib.hid hx
    have HL := Lib.hid hl
    clear hall hx hgd hl
    gi_wp2
    refine ⟨(KeepsOthers.alloc _ _).from _, fun W2 => ((Fr [] w W2 ∧ W2.heap[w.heap.size]? = some (.cells #[.int .i64 rev] 3 (0, 0))) ∧ (W2.heap[w.heap.size + 1]? = some (.cells #[.int .i64 0, .string ⟨#[]⟩, .string ⟨#[]⟩, .bool false] 63 (0, 0)) ∧ W2.heap[w.heap.size + 1 + 1]? = some (.cells #[.bool false] 4 (0, 0)))) ∧ W2.heap[W.heap.size]? = some (.cells #[.int .i64 x.rev, .string x.key, .string x.val, .bool x.del] 63 (0, 0)), (((Abides.fr hs0).and (Abides.cells _ _ _ _ _)).and ((Abides.cells _ _ _ _ _).and (Abides.cells _ _ _ _ _))).and (Abides.cells _ _ _ _ _),
      ⟨⟨⟨hf.alloc _, blk_alloc c0 _⟩, blk_alloc c1 _, blk_alloc c2 _⟩, new_block W _⟩, ?_⟩
    clear c0 c1 c2 hf
    rintro W2 ⟨⟨⟨hf, c0⟩, c1, c2⟩, c3⟩
    obtain ⟨e0, e1, e2, e3, ef⟩ := cells4 c3
    obtain ⟨d0, df⟩ := cells1 c0
    obtain ⟨g0, g1, g2, g3, gf⟩ := cells4 c1
    obtain ⟨k0, kf⟩ := cells1 c2
    by_cases hle : x.rev ≤ rev
    · have t1 : decide (x.rev ≤ rev) = true := by simpa using hle
      gi_wp2
      refine ⟨((set4_keeps _ _ _ _ _ _).trans (KeepsOthers.setCell _ _ _)).from _, ⟨(hf.set4 (by omega) _ _ _ _).setNew (by omega) _, set_other (set4_block c1 _ _ _ _) (by omega) _ _, ?_⟩, rfl, hle, HALL.out⟩
      have h5 := set_block (set4_other (b := w.heap.size + 1) c2 (by omega) (.int .i64 x.rev) (.string x.key) (.string x.val) (.bool x.del)) 0 (.bool true)
      simpa using h5
    · have t1 : decide (x.rev ≤ rev) = false := by simpa using hle
      have HLE := Lib.hid hle
      clear hle
      gi_wp2
      refine ⟨KeepsFrom.refl _ _, ⟨⟨hf, c0⟩, c1, c2⟩, fun i hi y hy => ?_⟩
      by_cases hij : i = j
      · subst hij
        have hxy := HX.out
        rw [hy] at hxy
        cases hxy
        have := HLE.out
        omega
      · exact HALL.out i (by omega) y hy
  case done =>
    rintro D W hD ⟨⟨⟨hf, c0⟩, c1, c2⟩, hall⟩ hK
    obtain ⟨g0, g1, g2, g3, gf⟩ := cells4 c1
    obtain ⟨k0, kf⟩ := cells1 c2
    have HALL := Lib.hid hall
    clear hall
    gi_wp2
    have q1 := set_other (set4_block c1 (.int .i64 0) (.string ⟨#[]⟩) (.string ⟨#[]⟩) (.bool false)) (show w.heap.size + 1 ≠ w.heap.size + 1 + 1 by omega) 0 (.bool false)
    have q2 := set_block (set4_other (b := w.heap.size + 1) c2 (by omega) (.int .i64 0) (.string ⟨#[]⟩) (.string ⟨#[]⟩) (.bool false)) 0 (.bool false)
    have q3 := (hf.set4 (b := w.heap.size + 1) (by omega) (.int .i64 0) (.string ⟨#[]⟩) (.string ⟨#[]⟩) (.bool false)).setNew (b := w.heap.size + 1 + 1) (o := 0) (by omega) (.bool false)
    have q4 := ((set4_keeps W (w.heap.size + 1) (.int .i64 0) (.string ⟨#[]⟩) (.string ⟨#[]⟩) (.bool false)).trans (KeepsOthers.setCell _ ⟨w.heap.size + 1 + 1, 0, none⟩ (.bool false))).same D _ hK rfl
    generalize ((((W.setCell ⟨w.heap.size + 1, 0, none⟩ (.int .i64 0)).setCell ⟨w.heap.size + 1, 1, none⟩ (.string ⟨#[]⟩)).setCell ⟨w.heap.size + 1, 2, none⟩ (.string ⟨#[]⟩)).setCell ⟨w.heap.size + 1, 3, none⟩ (.bool false)).setCell ⟨w.heap.size + 1 + 1, 0, none⟩ (.bool false) = W9 at *
    refine ⟨by simp, .inl ⟨_, _, rfl, run_takeDeferred q4, ?_⟩⟩
    have p1 := (World.putObj_heap_other (o := .deferred none) (show w.heap.size + 1 ≠ D by omega)).trans q1
    have p2 := (World.putObj_heap_other (o := .deferred none) (show w.heap.size + 1 + 1 ≠ D by omega)).trans q2
    have hn : atV l rev = none := find_no (fun i hi y hy => by have := HALL.out i hi y hy; simpa using this)
    rw [hn]
    obtain ⟨z0, z1, z2, z3, _⟩ := cells4 p1
    obtain ⟨y0, _⟩ := cells1 (by simpa using p2)
    refine ⟨.tuple #[.agg #[.int .i64 0, .string ⟨#[]⟩, .string ⟨#[]⟩, .bool false], .bool false], by simp [results, Tryz.f28, go_sem, z0, z1, z2, z3, y0], ?_⟩
    exact ⟨rfl, q3.putObj (by omega) _⟩
  case stop =>
    rintro D c j W hD hj ⟨⟨hf, c1, c2⟩, rfl, hle, hall⟩ hK
    have HALL := Lib.hid hall
    clear hall
    gi_wp2
    refine ⟨by simp, .inl ⟨_, _, rfl, run_takeDeferred hK, ?_⟩⟩
    have p1 := (World.putObj_heap_other (o := .deferred none) (show w.heap.size + 1 ≠ D by omega)).trans c1
    have p2 := (World.putObj_heap_other (o := .deferred none) (show w.heap.size + 1 + 1 ≠ D by omega)).trans c2
    have hx : l.reverse[j]? = some (l.reverse.getD j Ev.zero) := by rw [List.getD_eq_getElem?_getD, List.getElem?_eq_getElem hj]; rfl
    have hn : atV l rev = some (l.reverse.getD j Ev.zero) := find_at hx (by simpa using hle) (fun i hi y hy => by have := HALL.out i hi y hy; simpa using this)
    rw [hn]
    generalize l.reverse.getD j Ev.zero = x at *
    obtain ⟨z0, z1, z2, z3, _⟩ := cells4 p1
    obtain ⟨y0, _⟩ := cells1 p2
    refine ⟨.tuple #[.agg #[.int .i64 x.rev, .string x.key, .string x.val, .bool x.del], .bool true], by simp [results, Tryz.f28, go_sem, z0, z1, z2, z3, y0], ?_⟩
    exact ⟨rfl, hf.putObj (by omega) _⟩

/-- the versions that are told from a revision on, the last one first -/
def verR (rev : Int) : List Ev → List Ev
  | [] => []
  | e :: r => if rev < e.rev then e :: verR rev r else if e.del then [] else [e]
theorem verR_pre (rev : Int) : ∀ l : List Ev, verR rev l <+: l
  | [] => List.prefix_refl _
  | e :: r => by
    unfold verR
    split
    · exact List.prefix_cons_iff.2 (Or.inr ⟨_, rfl, verR_pre rev r⟩)
    · split
      · exact List.nil_prefix
      · exact List.prefix_cons_iff.2 (Or.inr ⟨_, rfl, List.nil_prefix⟩)
theorem verR_at {rev : Int} : ∀ {l : List Ev} {j : Nat} {x : Ev}, l[j]? = some x → x.rev ≤ rev → (∀ i, i < j → ∀ y, l[i]? = some y → rev < y.rev) → (verR rev l).length = j + (if x.del then 0 else 1)
  | [], j, x, h, _, _ => by simp at h
  | a :: r, 0, x, h, hp, _ => by
    simp at h; subst h
    unfold verR
    rw [if_neg (by omega)]
    split <;> rfl
  | a :: r, j + 1, x, h, hp, hn => by
    have h0 := hn 0 (by omega) a (by simp)
    have h1 := verR_at (l := r) (by simpa using h) hp (fun i hi y hy => hn (i + 1) (by omega) y (by simpa using hy))
    unfold verR
    rw [if_pos h0, List.length_cons, h1]; omega
theorem verR_all {rev : Int} : ∀ {l : List Ev}, (∀ y ∈ l, rev < y.rev) → verR rev l = l
  | [], _ => rfl
  | a :: r, h => by
    unfold verR
    rw [if_pos (h a (by simp)), verR_all (fun y hy => h y (List.mem_cons_of_mem _ hy))]
def kept (e : Ev) : Int := if e.del then 0 else 1
def fromV (l : List Ev) (rev : Int) : List Ev := (verR rev l.reverse).reverse
theorem fromV_drop {l : List Ev} {rev : Int} {k : Nat} (h : l.length = (verR rev l.reverse).length + k) : fromV l rev = l.drop k := by
  unfold fromV
  obtain ⟨t, ht⟩ := verR_pre rev l.reverse
  have h1 : l = t.reverse ++ (verR rev l.reverse).reverse := by rw [← List.reverse_append, ht, List.reverse_reverse]
  have h2 : t.reverse.length = k := by
    have := congrArg List.length h1
    rw [List.length_append, List.length_reverse, List.length_reverse] at this
    rw [List.length_reverse]; omega
  conv => rhs; rw [h1]
  rw [← h2, List.drop_left]
theorem gets_mem {α : Type} {p : α → Prop} {l : List α} (h : ∀ i, i < l.length → ∀ y, l[i]? = some y → p y) : ∀ y ∈ l, p y := by
  intro y hy
  obtain ⟨i, hi⟩ := List.mem_iff_getElem?.1 hy
  exact h i (List.getElem?_eq_some_iff.1 hi).1 y hi

theorem lies_not {w : World} {e : TypeId} {size n : Nat} {v : Value} {xs : List Value} (h : Lies w e size v n xs) {D : Nat} {o : Obj} (hD : w.heap[D]? = some o) (ho : o.isCells = false) : ∀ k, v.ownBlock = some k → k ∉ [D] := by
  intro k hk hm
  obtain rfl : k = D := by simpa using hm
  rcases h.2 with ⟨rfl, _⟩ | ⟨g, off, cap, cur, rfl, hg, _⟩
  · cases hk
  · cases hk; rw [hg] at hD; cases hD; cases ho
set_option maxRecDepth 100000 in
set_option maxHeartbeats 2000000 in
theorem ver_from (v : Value) (l : List Ev) (rev : Int) (w : World) (ha : EvAt w v l) (hb : l.length ≤ many) : Calls Tryz.prog 57 #[v, .int .i64 rev] w fun e w' =>
    ∃ v', e = .returned v' ∧ OutAt Ev.cells 63 4 w w' v' (fromV l rev) ∧ Fr [] w w' := by
  have hmf : ∀ (fn : Fn) (first cap : Array Value) (w : World), (Instr.makeFunc fn first cap).run Tryz.prog w = .ok (.func fn first cap) w := fun fn first cap w => rfl
  have hmany := hb
  unfold many at hb
  have hl := ha.read
  obtain ⟨s1, c1, rfl, la, ma⟩ := hl.form
  unfold maxLen at ma
  have HV : Hid ((s1 = none ∧ c1 = 0 ∧ l = []) ∨ ∃ g off, s1 = some ⟨g, off, none⟩ ∧ g < w.heap.size) := Lib.hid (by
    rcases ha.2 with ⟨h1, h2⟩ | ⟨g, off, cap, cur, h1, h2, _⟩
    · simp only [Value.slice.injEq] at h1
      exact Or.inl ⟨h1.1, h1.2.2, List.eq_nil_of_length_eq_zero h2⟩
    · simp only [Value.slice.injEq] at h1
      exact Or.inr ⟨g, off, h1.1, lt_of_block h2⟩)
  clear ha
  refine (callsIn_wide (n := 9)).1 (callsIn_of_wp_marks Tryz.func57 rfl trivial (wpIn_wide.2 ?_) rfl)
  simp only [Tryz.ntmps57, List.size_toArray, List.length_cons, List.length_nil, Nat.reduceAdd, Nat.reduceSub, Array.replicate_succ, Array.replicate_zero, List.push_toArray, List.append_toArray, List.nil_append, List.cons_append]
  go_wp2
  obtain ⟨b0, b1, hf0⟩ := two_boxes (w := w) (a := .cells #[.int .i64 rev] 3) (b := .cells #[.int .i64 l.length] 3) (Fr.refl [] _)
  generalize (w.alloc (.cells #[.int .i64 rev] 3)).alloc (.cells #[.int .i64 l.length] 3) = w3 at *
  have hs0 := hf0.size
  have hs3 : w.heap.size + 1 < w3.heap.size := lt_of_block b1
  refine wp_range_seq (xs := l.reverse) (enc := Ev.agg) (Rd := fun W => EvIn W (.slice s1 l.length c1) l) rfl (enters_of Tryz.func50 (by kernel_rfl) rfl) (back_in _ 8 trivial rfl (by decide) _ l hmany) rfl
    (fun j W => (Fr [] w W ∧ (W.heap[w.heap.size]? = some (.cells #[.int .i64 rev] 3 (0, 0)) ∧ W.heap[w.heap.size + 1]? = some (.cells #[.int .i64 ((l.length : Int) - j)] 3 (0, 0)))) ∧ ∀ i, i < j → ∀ y, l.reverse[i]? = some y → rev < y.rev)
    (fun c j W => (Fr [] w W ∧ W.heap[w.heap.size + 1]? = some (.cells #[.int .i64 ((l.length : Int) - (j : Int) - kept (l.reverse.getD j Ev.zero))] 3 (0, 0))) ∧ (c = .exit 0 ∧ (l.reverse.getD j Ev.zero).rev ≤ rev ∧ ∀ i, i < j → ∀ y, l.reverse[i]? = some y → rev < y.rev))
    (fun j => ((Abides.fr hs0).and ((Abides.cells _ _ _ _ _).and (Abides.cells _ _ _ _ _))).and (Abides.pure _ _))
    (fun c j => ((Abides.fr hs0).and (Abides.cells _ _ _ _ _)).and (Abides.pure _ _))
    (fun j W h => hl.keep0 h.1.1)
    (fun o o' => ⟨⟨(hf0.alloc _).alloc _, blk_alloc (blk_alloc b0 _) _, by simpa using blk_alloc (blk_alloc b1 _) _⟩, by intro i hi; omega⟩) ?round ?done ?stop
  case round =>
    rintro lp j x W hlp ⟨⟨hf, c0, c1'⟩, hall⟩ hx
    unfold Ev.agg
    have hsz := hf.size
    have hlt := lt_of_block c1'
    have hgd : l.reverse.getD j Ev.zero = x := by rw [List.getD_eq_getElem?_getD, hx]; rfl
    have hjl : j < l.length := by rw [← List.length_reverse]; exact (List.getElem?_eq_some_iff.1 hx).1
    rw [hgd]
    have HALL := Lib.hid hall
    have HX := Lib.hid hx
    have HL := Lib.hid hl
    clear hall hx hgd hl
    gi_wp2
    refine ⟨(KeepsOthers.alloc _ _).from _, fun W2 => (Fr [] w W2 ∧ (W2.heap[w.heap.size]? = some (.cells #[.int .i64 rev] 3 (0, 0)) ∧ W2.heap[w.heap.size + 1]? = some (.cells #[.int .i64 ((l.length : Int) - j)] 3 (0, 0)))) ∧ W2.heap[W.heap.size]? = some (.cells #[.int .i64 x.rev, .string x.key, .string x.val, .bool x.del] 63 (0, 0)), ((Abides.fr hs0).and ((Abides.cells _ _ _ _ _).and (Abides.cells _ _ _ _ _))).and (Abides.cells _ _ _ _ _),
      ⟨⟨hf.alloc _, blk_alloc c0 _, blk_alloc c1' _⟩, new_block W _⟩, ?_⟩
    clear c0 c1' hf
    rintro W2 ⟨⟨hf, c0, c1'⟩, c3⟩
    obtain ⟨e0, e1, e2, e3, ef⟩ := cells4 c3
    obtain ⟨d0, df⟩ := cells1 c0
    obtain ⟨k0, kf⟩ := cells1 c1'
    by_cases hle : x.rev ≤ rev
    · have t1 : decide (rev < x.rev) = false := by simpa using hle
      have t2 : decide (x.rev ≤ rev) = true := by simpa using hle
      cases hd : x.del
      · rw [hd] at e3
        gi_wp2
        refine ⟨(KeepsOthers.setCell _ _ _).from _, ⟨hf.setNew (by omega) _, ?_⟩, rfl, hle, HALL.out⟩
        unfold kept
        rw [hd]
        simpa using set_block c1' 0 (.int .i64 ((l.length : Int) - j - 1))
      · rw [hd] at e3
        gi_wp2
        refine ⟨KeepsFrom.refl _ _, ⟨hf, ?_⟩, rfl, hle, HALL.out⟩
        unfold kept
        rw [hd]
        simpa using c1'
    · have t1 : decide (rev < x.rev) = true := by simpa using hle
      have t2 : decide (x.rev ≤ rev) = false := by simpa using hle
      have HLE := Lib.hid hle
      clear hle
      gi_wp2
      refine ⟨(KeepsOthers.setCell _ _ _).from _, ⟨hf.setNew (by omega) _, set_other c0 (by omega) _ _, ?_⟩, fun i hi y hy => ?_⟩
      · have := set_block c1' 0 (.int .i64 ((l.length : Int) - j - 1))
        rw [show (l.length : Int) - ((j : Int) + 1) = (l.length : Int) - j - 1 by omega]
        simpa using this
      · by_cases hij : i = j
        · subst hij
          have hxy := HX.out
          rw [hy] at hxy
          cases hxy
          have := HLE.out
          omega
        · exact HALL.out i (by omega) y hy
  case' done =>
    rintro D W hD ⟨⟨hf, c0, c1'⟩, hall⟩ hK
    have hk : ∃ k : Nat, ((l.length : Int) - (l.reverse.length : Nat)) = k ∧ k ≤ l.length ∧ fromV l rev = l.drop k := by
      refine ⟨0, by rw [List.length_reverse]; omega, Nat.zero_le _, fromV_drop ?_⟩
      rw [verR_all (gets_mem hall), List.length_reverse, Nat.add_zero]
  case' stop =>
    rintro D c j W hD hj ⟨⟨hf, c1'⟩, rfl, hle, hall⟩ hK
    have hx : l.reverse[j]? = some (l.reverse.getD j Ev.zero) := by rw [List.getD_eq_getElem?_getD, List.getElem?_eq_getElem hj]; rfl
    have hk : ∃ k : Nat, ((l.length : Int) - (j : Int) - kept (l.reverse.getD j Ev.zero)) = k ∧ k ≤ l.length ∧ fromV l rev = l.drop k := by
      have h2 := verR_at hx hle hall
      rw [List.length_reverse] at hj
      refine ⟨l.length - (j + (if (l.reverse.getD j Ev.zero).del then 0 else 1)), by unfold kept; split <;> omega, by omega, fromV_drop ?_⟩
      rw [h2]
      split <;> omega
    clear hx hle hj
  all_goals
    obtain ⟨k, hk1, hk2, hk3⟩ := hk
    rw [hk1] at c1'
    have HK3 := Lib.hid hk3
    clear hk1 hall hk3
    obtain ⟨k0, _⟩ := cells1 c1'
    have HFW := Lib.hid hf
    have HLW := Lib.hid (hl.keep0 hf)
    rcases HV.out with ⟨rfl, rfl, rfl⟩ | ⟨g, off, rfl, hg⟩
    · obtain rfl : k = 0 := by simpa using hk2
      clear hf hl
      go_wp2_with (go_at_call 72; refine (clone_ver _ [] _ (LIn.nil _) (by unfold many; omega)).mono ?_; rintro e w9 ⟨v9, rfl, h1, h2⟩; refine go_stop ?_)
      unfold Stop
      have hD9 := h2.keep hK (by simp)
      have HO : Hid (OutAt Ev.cells 63 4 w w9 v9 (fromV [] rev)) := Lib.hid (by rw [HK3.out]; exact ⟨h1.lies, fun k hk => Nat.le_trans HFW.out.size (h1.new k hk)⟩)
      have HF9 := Lib.hid (HFW.out.trans h2 (by simp))
      clear h1 h2 hK
      go_wp2_with fail
      refine ⟨by simp, .inl ⟨_, _, rfl, run_takeDeferred hD9, ?_⟩⟩
      refine ⟨v9, by simp [results, Tryz.f57, go_sem], v9, rfl, ⟨HO.out.lies.keep (Fr.putIn w9 D (.deferred none)) (lies_not HO.out.lies hD9 rfl), HO.out.new⟩, HF9.out.putObj ?hb _⟩
      case hb => omega
    · clear hf hl
      have hgw : g < W.heap.size := Nat.lt_of_lt_of_le hg HFW.out.size
      go_wp2_with (refine wpList_slice_from rfl (.tmp 27) (.tmp 28) 75 63 (.agg #[.int .i64 0, .string ⟨#[]⟩, .string ⟨#[]⟩, .bool false]) 4 48 rfl ver_slice ev_info g off l.length c1 k (l.length - k) rfl rfl (by omega) (by omega) ?_; intro off4 hcut; refine go_stop ?_)
      unfold Stop
      have HD := Lib.hid (LIn.drop HLW.out (m := l.length - k) (k := k) (by omega) hcut hgw)
      clear hcut
      go_wp2_with (go_at_call 72; refine (clone_ver _ (l.drop k) _ HD.out (by rw [List.length_drop]; unfold many; omega)).mono ?_; rintro e w9 ⟨v9, rfl, h1, h2⟩; refine go_stop ?_)
      unfold Stop
      have hD9 := h2.keep hK (by simp)
      have HO : Hid (OutAt Ev.cells 63 4 w w9 v9 (fromV l rev)) := Lib.hid (by rw [HK3.out]; exact ⟨h1.lies, fun k hk => Nat.le_trans HFW.out.size (h1.new k hk)⟩)
      have HF9 := Lib.hid (HFW.out.trans h2 (by simp))
      clear h1 h2 hK
      go_wp2_with fail
      refine ⟨by simp, .inl ⟨_, _, rfl, run_takeDeferred hD9, ?_⟩⟩
      refine ⟨v9, by simp [results, Tryz.f57, go_sem], v9, rfl, ⟨HO.out.lies.keep (Fr.putIn w9 D (.deferred none)) (lies_not HO.out.lies hD9 rfl), HO.out.new⟩, HF9.out.putObj ?hb _⟩
      case hb => omega
end Go.Proofs.YtmipllkgioakoaaGreat
