/- PACKAGE bst: a way: up, pass -/
import Derived.Test.YthiobdhdefimhaaBsMk
namespace Go.Proofs.Ythiobdhdefimhaa
open Go.RowKit
set_option linter.unusedVariables false
set_option linter.unusedSimpArgs false

theorem psV_len (A : TA) (l : List Ps) : (l.flatMap (psV A)).length = l.length * 3 := by
  induction l with
  | nil => rfl
  | cons p l ih => rw [List.flatMap_cons, List.length_append, ih]; simp [psV]; omega
theorem psV_get (A : TA) : ∀ (l : List Ps) (i j : Nat) (p : Ps), l[i]? = some p → j < 3 → (l.flatMap (psV A))[i * 3 + j]? = (psV A p)[j]?
  | q :: l, 0, j, p, h, hj => by
    simp at h; subst h
    rw [List.flatMap_cons, List.getElem?_append_left (by simp [psV]; omega)]
    simp
  | q :: l, i + 1, j, p, h, hj => by
    rw [List.flatMap_cons, List.getElem?_append_right (by simp [psV]; omega)]
    have : (i + 1) * 3 + j - (psV A q).length = i * 3 + j := by simp [psV]; omega
    rw [this]
    exact psV_get A l i j p (by simpa using h) hj
theorem WayAt.slice {w : World} {A : TA} {a : CA} {key : ByteArray} {lv : Value} {path : List Ps} (h : WayAt w A a key lv path) (hp : path ≠ []) : ∃ g cap, a.pv = .slice (some ⟨g, 0, none⟩) path.length cap ∧ g < w.heap.size ∧ g ≠ a.wb ∧ (∀ i p, path[i]? = some p →
    w.cell? ⟨g, i * 3, none⟩ = some (A.np p.node) ∧ w.cell? ⟨g, i * 3 + 1, none⟩ = some (.bool p.asked) ∧ w.cell? ⟨g, i * 3 + 2, none⟩ = some (.int .u64 p.seen)) ∧ (∀ o, w.frozen? ⟨g, o, none⟩ = false) := by
  rcases h.row.2 with ⟨_, hn⟩ | ⟨g, c, cur0, hv, _, hh0, hc, _⟩
  · exact absurd (List.length_eq_zero_iff.1 hn) hp
  · have hg := lt_of_block hh0
    have hr := h.row
    rw [hv] at hr
    have hcell := hr.cells (g := g) rfl
    have key : ∀ i p j u, path[i]? = some p → j < 3 → (psV A p)[j]? = some u → w.cell? ⟨g, i * 3 + j, none⟩ = some u := by
      intro i p j u hi hj hu
      have h2 := hcell (i * 3 + j) u (by rw [psV_get A path i j p hi hj]; exact hu)
      have hadd : (⟨g, 0, none⟩ : Addr).add (i * 3 + j) = ⟨g, i * 3 + j, none⟩ := by unfold Addr.add; split <;> simp_all
      rwa [hadd] at h2
    refine ⟨g, c, hv, hg, ?_, fun i p hi => ⟨by simpa using key i p 0 _ hi (by omega) rfl, key i p 1 _ hi (by omega) rfl, key i p 2 _ hi (by omega) rfl⟩, ?_⟩
    · rintro rfl
      rcases hr.2 with ⟨hx, _⟩ | ⟨g', cap, cur, hx, _, hh, _⟩
      · cases hx
      · cases hx
        have := h.blk
        rw [hh] at this; simp only [Option.some.injEq, Obj.cells.injEq] at this
        exact absurd this.2.1 (by decide)
    · intro o
      rcases hr.2 with ⟨hx, _⟩ | ⟨g', cap, cur, hx, _, hh, _⟩
      · cases hx
      · cases hx
        exact free_block hh o
theorem way_cells {w : World} {A : TA} {a : CA} {key : ByteArray} {lv : Value} {path : List Ps} (h : WayAt w A a key lv path) : w.cell? ⟨a.wb, 0, none⟩ = some (pt A.tb) ∧ w.cell? ⟨a.wb, 1, none⟩ = some (.string key) ∧ w.cell? ⟨a.wb, 2, none⟩ = some a.pv ∧ w.cell? ⟨a.wb, 3, none⟩ = some lv ∧ w.frozen? ⟨a.wb, 2, none⟩ = false := by
  obtain ⟨h0, h1, h2, h3, hf⟩ := cells4 h.blk
  exact ⟨h0, h1, h2, h3, hf 2⟩
set_option maxHeartbeats 1000000 in
theorem way_up (w : World) (A : TA) (a : CA) (key : ByteArray) (lv : Value) (path : List Ps) (n g cap : Nat) (h : WayAt w A a key lv path) (hn : n < path.length) (hl : path.length ≤ 1000000000) (hs : a.pv = .slice (some ⟨g, 0, none⟩) path.length cap) :
    Calls Try.prog 56 #[pt a.wb, .int .i64 n] w fun e w' => e = .returned (.pointer (some ⟨g, (path.length - 1 - n) * 3, none⟩)) ∧ Fr [] w w' := by
  obtain ⟨_, _, c2, _⟩ := way_cells h
  rw [hs] at c2
  obtain ⟨L, hL⟩ : ∃ L, L = path.length := ⟨_, rfl⟩
  rw [← hL] at c2 hn hl ⊢
  have e1 : IntKind.i64.wrap ((L : Int) - 1) = L - 1 := IntWalk.i64_in _ (by omega)
  have e2 : IntKind.i64.wrap ((L : Int) - 1 - n) = ((L - 1 - n : Nat) : Int) := by rw [IntWalk.i64_in _ (by omega)]; omega
  obtain ⟨K, hK⟩ : ∃ K, K = L - 1 - n := ⟨_, rfl⟩
  rw [← hK] at e2 ⊢
  have k0 : (0 : Int) ≤ K := by omega
  have k1 : (K : Int) < L := by omega
  have k2 : (K : Int).toNat = K := by omega
  clear h hs hL hn hl hK
  go_enter Try.func56, Try.ntmps56
  go_upto_region 1 with fail
  go_quiet (fail)
  go_wp2
  go_ret
  exact ⟨rfl, (Fr.refl [] w).drewN _⟩
theorem ps_slice : Try.prog.underlying 105 = some (.slice 110) := Try.underlying105
theorem ps_info : (Try.prog.info? 110).map (fun i => (i.zero, i.size, i.bytes)) = some (some (.agg #[.pointer none, .bool false, .int .u64 0]), 3, 24) := by kernel_rfl
theorem own_three (w : World) (e : TypeId) (x y z : Value) : (w.alloc (.cells #[x, y, z] e)).ownsRow 0 e 3 (.slice (some ⟨w.heap.size, 0, none⟩) 1 1) 1 [x, y, z] :=
  ⟨by simp, Or.inr ⟨_, _, _, rfl, Nat.zero_le _, new_block w _, Nat.le_refl _, by decide, by simp, by simp⟩⟩
/-- a way's nodes: how they lie is told by the slice alone -/
def Passed (w : World) (A : TA) (a : CA) (key : ByteArray) (lv : Value) (path : List Ps) (w' : World) : Prop :=
  ∃ pv, WayAt w' A { a with pv := pv } key lv path ∧ Fr (WayAt.foot a) w w' ∧ ∀ k, pv.ownBlock = some k → a.pv.ownBlock = some k ∨ w.heap.size ≤ k
theorem WayAt.ne {w : World} {A : TA} {a : CA} {key : ByteArray} {lv : Value} {path : List Ps} (h : WayAt w A a key lv path) : a.pv.ownBlock ≠ some a.wb := by
  intro hk
  rcases h.row.2 with ⟨hv, _⟩ | ⟨g, cap, cur, hv, _, hh, _⟩
  · rw [hv] at hk; cases hk
  · rw [hv] at hk; cases hk
    have := h.blk
    rw [hh] at this; simp only [Option.some.injEq, Obj.cells.injEq] at this
    exact absurd this.2.1 (by decide)
theorem WayAt.keep0 {w w' : World} {A : TA} {a : CA} {key : ByteArray} {lv : Value} {path : List Ps} (h : WayAt w A a key lv path) (hf : Fr [] w w') : WayAt w' A a key lv path :=
  ⟨hf.keep h.blk (by simp), ownsRow_fr hf h.row (by simp)⟩
theorem way_slice {w : World} {A : TA} {a : CA} {key : ByteArray} {lv : Value} {path : List Ps} (h : WayAt w A a key lv path) : ∃ s cap, a.pv = .slice s path.length cap := by
  rcases h.row.2 with ⟨hv, hn⟩ | ⟨g, cap, cur, hv, _⟩
  · exact ⟨none, 0, by rw [hv, hn]⟩
  · exact ⟨_, cap, hv⟩
/-- the slice is another one -/
theorem WayAt.setPv {w w1 : World} {A : TA} {a : CA} {key : ByteArray} {lv : Value} {path path' : List Ps} {pv : Value} (h : WayAt w A a key lv path) (hf : Fr a.pv.ownBlock.toList w w1) (hrow : w1.ownsRow 0 110 3 pv path'.length (path'.flatMap (psV A)))
    (hp : ∀ k, pv.ownBlock = some k → a.pv.ownBlock = some k ∨ w.heap.size ≤ k) : Passed w A a key lv path' (w1.setCell ⟨a.wb, 2, none⟩ pv) := by
  have hne := h.ne
  have hb := hf.keep h.blk (by simpa using hne)
  have hlt := lt_of_block h.blk
  refine ⟨pv, ⟨by simpa using set_block hb 2 pv, ownsRow_setCell_other hrow (a := ⟨a.wb, 2, none⟩) (fun e => (hp _ e).elim hne (fun h => by simp at h; omega)) pv⟩, ?_, hp⟩
  exact (hf.mono (fun k hk => Or.inl (by simp [WayAt.foot] at hk ⊢; exact Or.inr hk))).setCell (Or.inl (by simp [WayAt.foot])) _
set_option maxHeartbeats 2000000 in
theorem way_pass (w : World) (A : TA) (a : CA) (key : ByteArray) (lv : Value) (path : List Ps) (p b : Nat) (n : Nd) (h : WayAt w A a key lv path) (hl : path.length ≤ 1000000000) (hn : A.np p = pt b) (hb : NodB w b p n) (h0 : 0 ≤ n.cell) (h1 : n.cell ≤ 65536) (h2 : 2 ≤ p) (h3 : p ≤ 65536) (hbo : b ∉ WayAt.foot a) :
    Calls Try.prog 77 #[pt a.wb, pt b] w fun e w' => e = .returned (n.toward p key).agg ∧ Passed w A a key lv (path ++ [⟨p, false, 0⟩]) w' := by
  obtain ⟨s, cap, hs⟩ := way_slice h
  obtain ⟨wa, hwa⟩ : ∃ wa, wa = w.alloc (.cells #[.int .i64 0, .int .u64 0] 94) := ⟨_, rfl⟩
  have hfa : Fr [] w wa := by rw [hwa]; exact (Fr.refl [] w).alloc _
  have ha := h.keep0 hfa
  have hnb : wa.heap[w.heap.size]? = some (.cells #[.int .i64 0, .int .u64 0] 94 (0, 0)) := by rw [hwa]; exact new_block w _
  have hsz : w.heap.size < wa.heap.size := lt_of_block hnb
  have hwlt := lt_of_block h.blk
  have hrow1 : (wa.alloc (.cells #[pt b, .bool false, .int .u64 0] 110)).ownsRow 0 110 3 a.pv path.length (path.flatMap (psV A)) := (ha.keep0 ((Fr.refl [] wa).alloc _)).row
  obtain ⟨c0, c1, c2, c3, f2⟩ := way_cells ha
  rw [hs] at c2 hrow1
  have n1 : ¬ a.wb = wa.heap.size := by omega
  have n2 : ¬ wa.heap.size = a.wb := by omega
  have n3 : ¬ a.wb = w.heap.size := by omega
  have n4 : ¬ w.heap.size = a.wb := by omega
  have HTO : Hid (∀ W, NodB W b p n → Calls Try.prog 46 #[pt b, .string key] W fun e w' => e = .returned (n.toward p key).agg ∧ Fr [] W w') := Lib.hid fun W hW => nd_toward n p b key W hW h0 h1 h2 h3
  obtain ⟨T, hT⟩ : ∃ T, T = n.toward p key := ⟨_, rfl⟩
  rw [← hT] at HTO ⊢
  obtain ⟨tc, tf⟩ := T
  unfold Br.agg at *
  dsimp only at *
  have HA := Lib.hid ha
  have HFA := Lib.hid hfa
  have HWA := Lib.hid hwa
  have HNB := Lib.hid hnb
  have HB := Lib.hid hb
  have HBO := Lib.hid hbo
  have HR1 := Lib.hid hrow1
  have HS := Lib.hid hs
  have HNP := Lib.hid hn
  have HWO : Hid (a.pv.ownBlock ≠ some w.heap.size ∧ a.wb ≠ w.heap.size) := Lib.hid ⟨fun e => by have := (h.row.lt _ e).2; omega, fun e => by omega⟩
  clear h ha hnb hb hbo hrow1 hs hwa hT hn hfa
  go_enter Try.func77, Try.ntmps77
  go_upto_region 1 with fail
  rw [← HWA.out]
  go_wp2_with (at_builtin; refine wpList_append_fr rfl (.tmp 9) (.tmp 12) 105 110 (.agg #[.pointer none, .bool false, .int .u64 0]) 3 24 rfl ps_slice ps_info rfl (by decide) (.slice s path.length cap) path.length (path.flatMap (psV A)) rfl HR1.out _ 1 [pt b, .bool false, .int .u64 0] rfl (own_three _ _ _ _ _) (by intro y hy; simp at hy; rcases hy with rfl | rfl | rfl <;> rfl) (by unfold maxLen; omega) (by omega) ?app)
  case app =>
  intro v' w2 hown hfr hat
  have hown' : w2.ownsRow 0 110 3 v' (path ++ [⟨p, false, 0⟩] : List Ps).length ((path ++ [⟨p, false, 0⟩] : List Ps).flatMap (psV A)) := by
    have : (path ++ [⟨p, false, 0⟩] : List Ps).flatMap (psV A) = path.flatMap (psV A) ++ [pt b, .bool false, .int .u64 0] := by
      rw [List.flatMap_append]; simp [psV, HNP.out]
    rw [this]; simpa using hown
  have hF2 : Fr a.pv.ownBlock.toList wa w2 := by
    rw [HS.out]
    exact ((Fr.refl _ wa).alloc _).trans hfr (fun x hx => Or.inl hx)
  have hat' : ∀ k, v'.ownBlock = some k → a.pv.ownBlock = some k ∨ wa.heap.size ≤ k := fun k hk => by
    rw [HS.out]
    exact (hat k hk).imp id (fun h => by rw [h]; simp)
  have hpa := HA.out.setPv hF2 hown' hat'
  obtain ⟨w3, hw3⟩ : ∃ w3, w3 = w2.setCell ⟨a.wb, 2, none⟩ v' := ⟨_, rfl⟩
  rw [← hw3] at hpa
  have hb2 := hF2.keep HA.out.blk (by simpa using HA.out.ne)
  obtain ⟨_, _, d2, _, df⟩ := cells4 hb2
  have df2 := df 2
  have HPA := Lib.hid hpa
  have HW3 := Lib.hid hw3
  have hown2 := hown'.2
  rw [show (path ++ [⟨p, false, 0⟩] : List Ps).length = path.length + 1 by simp] at hown2
  rcases hown2 with ⟨rfl, hn⟩ | ⟨g, gc, cur, rfl, _⟩
  · simp at hn
  clear hown hfr hat hown' hF2 hat' hpa hw3 hb2 df c0 c1 c2 c3 f2
  go_upto_region 2 with fail
  rw [← HW3.out]
  obtain ⟨pv, hpw, hpf, hpn⟩ := HPA.out
  have HPW := Lib.hid hpw
  have HPF := Lib.hid (Fr.trans (T := WayAt.foot a) (HFA.out.mono (by simp) : Fr (WayAt.foot a) w wa) hpf (fun x hx => Or.inl hx))
  have HPN2 := Lib.hid hpn
  have HPN : Hid (∀ k, pv.ownBlock = some k → a.pv.ownBlock = some k ∨ w.heap.size ≤ k) := Lib.hid fun k hk => (hpn k hk).imp id (fun h => by omega)
  obtain ⟨c0, c1, c2, c3, f2⟩ := way_cells hpw
  have HN3 : Hid (NodB w3 b p n) := Lib.hid (HPF.out.keep HB.out HBO.out)
  have HR3 : Hid (w3.heap[w.heap.size]? = some (.cells #[.int .i64 0, .int .u64 0] 94 (0, 0))) := Lib.hid (hpf.keep HNB.out (by simp [WayAt.foot]; exact ⟨n4, HWO.out.1⟩))
  clear hpw hpf hpn d2 df2
  go_wp2_with (go_at_call 46; refine (HTO.out _ HN3.out).mono ?_; rintro e w4 ⟨rfl, hf⟩; have HF4 := Lib.hid hf; have HR4 := Lib.hid (hf.keep HR3.out (by simp)); obtain ⟨b0, b1, _⟩ := cells2 HR4.out; have g0 := free_block HR4.out 0; have g1 := free_block HR4.out 1; clear hf)
  refine bodyPost_ret (v := .agg #[.int .i64 tc, .int .u64 tf]) (by simp [results, Try.results77, go_sem, *]) rfl ⟨rfl, pv, ?_, ?_, HPN.out⟩
  · have hf : Fr [w.heap.size] w3 ((w4.setCell ⟨w.heap.size, 0, none⟩ (.int .i64 tc)).setCell ⟨w.heap.size, 1, none⟩ (.int .u64 tf)) := ((HF4.out.mono (by simp)).setCell (Or.inl (by simp)) _).setCell (Or.inl (by simp)) _
    refine ⟨hf.keep HPW.out.blk (by simp; exact n3), ownsRow_fr hf HPW.out.row (fun k hk => ?_)⟩
    simp only [List.mem_singleton]
    rintro rfl
    exact (HPN2.out _ hk).elim HWO.out.1 (fun h => by omega)
  · exact ((HPF.out.trans (T := []) HF4.out (by simp)).setCell (Or.inr (Nat.le_refl _)) _).setCell (Or.inr (Nat.le_refl _)) _
end Go.Proofs.Ythiobdhdefimhaa
