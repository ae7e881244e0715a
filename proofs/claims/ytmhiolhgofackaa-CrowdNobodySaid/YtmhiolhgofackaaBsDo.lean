/- PACKAGE bst: a call, made and run at once, by what the tree holds -/
import Derived.Test.YtmhiolhgofackaaBsSek
import Derived.Test.YtmhiolhgofackaaBsKeys
import Derived.Test.YtmhiolhgofackaaBsLp
namespace Go.Proofs.Ytmhiolhgofackaa
open Go.RowKit
set_option linter.unusedVariables false
set_option linter.unusedSimpArgs false

abbrev Hold := ByteArray → Option Int
structure Good (t : Tr) (L : PT) (x : Hold) (n : Nat) : Prop where
  quiet : Quiet t L
  ord : Ord t (.node 2 L (.leaf 1))
  cont : ∀ k, cont t L k = x k
  cnt : t.ms.n ≤ 70000 * n
  ns : t.ns.length ≤ 3 + 3 * n
  ws : t.ws.length ≤ n
  ti : TI t
  li : LI t L
theorem Good.fit {t : Tr} {L : PT} {x : Hold} {n : Nat} (h : Good t L x n) (hn : n ≤ 2000) : TreeFit t := ⟨by have := h.cnt; omega, by have := h.ns; omega, by have := h.ws; omega⟩
theorem Good.mono {t : Tr} {L : PT} {x : Hold} {n m : Nat} (h : Good t L x n) (hm : n ≤ m) : Good t L x m := ⟨h.quiet, h.ord, h.cont, Nat.le_trans h.cnt (by omega), Nat.le_trans h.ns (by omega), Nat.le_trans h.ws hm, h.ti, h.li⟩
theorem Good.new (ms : MS) (hc : ms.c.length = 0) (hn : ms.n = 0) : Good (Tr.new ms) (.leaf 0) (fun _ => none) 0 := by
  obtain ⟨h1, h2, h3, h4, h5, h6⟩ := new_facts ms hc
  exact ⟨h1, h2, h3, by rw [h6, hn]; omega, by rw [h4]; omega, by rw [h5]; omega, TI.new ms hc, LI.new ms hc⟩
def Hold.put (x : Hold) (k : ByteArray) (v : Option Int) : Hold := fun k' => if k' = k then v else x k'
def doX (x : Hold) (kind : Int) (k : ByteArray) (v : Int) : Hold × An :=
  if kind = 1 then match x k with
    | some u => (x, ⟨false, k, u, 0⟩)
    | none => (x.put k (some v), ⟨true, k, v, 0⟩)
  else if kind = 2 then match x k with
    | some u => (x.put k none, ⟨true, k, u, 0⟩)
    | none => (x, ⟨false, k, 0, 0⟩)
  else match x k with
    | some u => (x, ⟨true, k, u, 0⟩)
    | none => (x, ⟨false, k, 0, 0⟩)
def madeC (kind : Int) (k : ByteArray) (v : Int) : Cl := if kind = 1 then Cl.new .ins k v else if kind = 2 then (Cl.new .rem k 0).start else Cl.new .fnd k 0
def madeS (t : Tr) (kind : Int) (k : ByteArray) : Stp := if kind = 1 then .beg else if kind = 2 then .desc (t.toward 2 k) .way else .desc (t.toward 2 k) .find
theorem above_top {t : Tr} {L : PT} (hq : Quiet t L) : ∀ k, (t.nd 2).above k = true := fun k => (hq.top2 k).1
theorem op_doN {t : Tr} {L : PT} {x : Hold} {n : Nat} (h : Good t L x n) (hn : n ≤ 2000) (kind : Int) (k : ByteArray) (v : Int) :
    ∃ m T C L', m ≤ L.depth + 12 ∧ OkRun m t (madeC kind k v) (madeS t kind k) T C ∧ Good T L' (doX x kind k v).1 (n + 1) ∧ C.ans = (doX x kind k v).2 ∧ (∀ p, p < t.ns.length → T.nd p = t.nd p) ∧ (kind = 1 → Ref (.node 2 L (.leaf 1)) (.node 2 L' (.leaf 1))) := by
  obtain ⟨hq, ho, hc, h1, h2, h3, hti, hli⟩ := h
  have hf : TreeFit t := ⟨by omega, by omega, by omega⟩
  have hck := hc k
  have same : ∀ {T : Tr}, SameC t T → Grown t T → Good T L x (n + 1) := fun hs hg => ⟨hs.quiet hq, hs.ord ho, fun k => by rw [hs.cont]; exact hc k, by have := hg.n1; omega, by have := hg.ns; omega, by have := hg.ws; omega, hti.sameC hs, hli.sameC hs⟩
  have hrun : ∀ {m : Nat} {c C : Cl} {s : Stp} {T : Tr} {L' : PT}, OkRun m t c s T C → CC t c → SI t c s → LC t L c (fun _ => True) (fun _ => True) s → c.kd ≠ .sek → T.ns.length ≤ 60000 → Quiet T L' → LI T L' := fun r a b d e f g => by
    obtain ⟨L2, h2⟩ := li_run _ r hli hti a b d e f
    have := whole_unique h2.kt (at_kt g.at_)
    rw [← this]; exact h2
  unfold doX madeC madeS
  by_cases k1 : kind = 1
  · rw [if_pos k1, if_pos k1, if_pos k1]
    obtain ⟨m, T, C, r0, r1, r2, r3⟩ := op_ins hq hf k v
    unfold cont at hck
    by_cases hh : (t.nd (look t k L)).has k = true
    · rw [if_pos hh] at r3 hck
      rw [← hck]
      exact ⟨m, T, C, L, r0, r1, same r3.1 r2, r3.2, fun p _ => r3.1.nd p, fun _ => Ref.refl _⟩
    · rw [if_neg hh] at r3 hck
      rw [← hck]
      obtain ⟨ha, t3, f, D, L', s3, hT, hsd, htop, hp1, hp2, hqT⟩ := r3
      have hq3 := s3.quiet hq
      have hsd3 : f.lt = (t3.nd f.p).above k := by rw [s3.nd]; exact hsd f (by simp)
      have hroom3 : t3.room = true := by unfold Tr.room; apply decide_eq_true; rw [s3.c, hq.len]; omega
      obtain ⟨_, cns, _⟩ := ins_cells hq3 hp1 htop k v hsd3 hroom3
      rw [← hT] at cns
      have hlo : lowN t3 (look t k L) k v = lowN t (look t k L) k v := by unfold lowN; rw [s3.nd]
      have hhi : highN t3 (look t k L) k v = highN t (look t k L) k v := by unfold highN; rw [s3.nd]
      rw [s3.ns, hlo, hhi] at cns
      have nlt : ∀ p, p < t.ns.length → T.nd p = t.nd p := fun p hp => by unfold Tr.nd; rw [cns]; simp [List.getD_eq_getElem?_getD, List.getElem?_append_left hp]
      obtain ⟨i1, i2⟩ := ins_cont (c := (t.ns.length : Int)) (v := v) (T := T) hq.at_ nlt (by unfold Tr.nd; rw [cns]; simp [List.getD_eq_getElem?_getD]) (by unfold Tr.nd; rw [cns]; simp [List.getD_eq_getElem?_getD]) (by unfold Tr.nd; rw [cns]; simp [List.getD_eq_getElem?_getD]) hp1 hp2 hsd ho (by simpa using hh) (above_top hq)
      refine ⟨m, T, C, L', r0, r1, ⟨hqT, i1, fun k' => ?_, by have := r2.n1; omega, by have := r2.ns; omega, by have := r2.ws; omega, ti_run m r1 hti (ins_made k v).1 (ins_made k v).2 (by have := r2.ns; omega), hrun r1 (ins_made k v).1 (ins_made k v).2 (ins_lc k v) (by simp [Cl.new]) (by have := r2.ns; omega) hqT⟩, ha, nlt, fun _ => ?_⟩
      · rw [i2 k', hc k']; rfl
      · rw [← hp1, ← hp2]; exact ref_in _ (.leaf _ _)
  · rw [if_neg k1, if_neg k1, if_neg k1]
    by_cases k2 : kind = 2
    · rw [if_pos k2, if_pos k2, if_pos k2]
      obtain ⟨m, T, C, r0, r1, r2, r3⟩ := op_rem hq hf k
      unfold cont at hck
      by_cases hh : (t.nd (look t k L)).has k = true
      · rw [if_pos hh] at r3 hck
        rw [← hck]
        obtain ⟨ha, t3, f, g, D, L', s3, hT, hsd, htop, hp1, hp2, hqT⟩ := r3
        have hq3 := s3.quiet hq
        obtain ⟨_, cns, _⟩ := rem_cells hq3 hp1 htop k
        rw [← hT] at cns
        have nall : ∀ p, T.nd p = t.nd p := fun p => by unfold Tr.nd; rw [cns, s3.ns]
        obtain ⟨i1, i2⟩ := rem_cont nall hp1 hp2 hsd ho hh (above_top hq)
        refine ⟨m, T, C, L', r0, r1, ⟨hqT, i1, fun k' => ?_, by have := r2.n1; omega, by have := r2.ns; omega, by have := r2.ws; omega, ti_run m r1 hti (rem_made hti k).1 (rem_made hti k).2 (by have := r2.ns; omega), hrun r1 (rem_made hti k).1 (rem_made hti k).2 (rem_lc k) (by simp [Cl.new, Cl.start]) (by have := r2.ns; omega) hqT⟩, ha, fun p _ => nall p, fun e => absurd e k1⟩
        rw [i2 k', hc k']; rfl
      · rw [if_neg hh] at r3 hck
        rw [← hck]
        exact ⟨m, T, C, L, r0, r1, same r3.1 r2, r3.2, fun p _ => r3.1.nd p, fun e => absurd e k1⟩
    · rw [if_neg k2, if_neg k2, if_neg k2]
      obtain ⟨m, T, C, r0, r1, r2, r3, r4⟩ := op_fnd hq hf k
      unfold cont at hck
      by_cases hh : (t.nd (look t k L)).has k = true
      · rw [if_pos hh] at r4 hck
        rw [← hck]
        exact ⟨m, T, C, L, r0, r1, same r2 r3, r4, fun p _ => r2.nd p, fun e => absurd e k1⟩
      · rw [if_neg hh] at r4 hck
        rw [← hck]
        exact ⟨m, T, C, L, r0, r1, same r2 r3, r4, fun p _ => r2.nd p, fun e => absurd e k1⟩
theorem op_do {t : Tr} {L : PT} {x : Hold} {n : Nat} (h : Good t L x n) (hn : n ≤ 2000) (kind : Int) (k : ByteArray) (v : Int) :
    ∃ m T C L', OkRun m t (madeC kind k v) (madeS t kind k) T C ∧ Good T L' (doX x kind k v).1 (n + 1) ∧ C.ans = (doX x kind k v).2 ∧ (∀ p, p < t.ns.length → T.nd p = t.nd p) ∧ (kind = 1 → Ref (.node 2 L (.leaf 1)) (.node 2 L' (.leaf 1))) := by
  obtain ⟨m, T, C, L', _, h⟩ := op_doN h hn kind k v
  exact ⟨m, T, C, L', h⟩
/-! in memory -/
/-- what a call that was run leaves -/
def DonePost (w : World) (A : TA) (T : Tr) (r : An) (e : Ending) (w' : World) : Prop :=
  ∃ A', e = .returned r.agg ∧ TreeAt w' A' T ∧ Ext A A' ∧ Fr A.foot w w' ∧ ∀ x ∈ A'.foot, x ∈ A.foot ∨ w.heap.size ≤ x
/-- a tree of one's own, by what it holds -/
def BT (w : World) (A : TA) (x : Hold) (n : Nat) : Prop := ∃ t L, TreeAt w A t ∧ Good t L x n
/-- a deed that is run -/
def RanPost (w : World) (A : TA) (x : Hold) (n : Nat) (r : An) (e : Ending) (w' : World) : Prop :=
  ∃ A', e = .returned r.agg ∧ BT w' A' x n ∧ A'.tb = A.tb ∧ A'.mb = A.mb ∧ Fr A.foot w w' ∧ ∀ y ∈ A'.foot, y ∈ A.foot ∨ w.heap.size ≤ y
theorem Quiet.nd2 {t : Tr} {L : PT} (hq : Quiet t L) (hl : t.ns.length ≤ 65536) : NdOk t 2 := (at_inners hq.at_ 2 (by simp [PT.inners])).nd hl
theorem MadePost.later {X : List Nat} {w w1 W : World} {A : TA} {t : Tr} {c : Cl} {s : Stp} {p : Nat} (h : MadePost X w A t c s (.returned (pt p)) w1) (hf : Fr [] w1 W) : MadePost X w A t c s (.returned (pt p)) W := by
  obtain ⟨A1, a, V, he, hcf, hov, hext, hfr, hfA, hfa, hcb⟩ := h
  exact ⟨A1, a, V, he, hcf.keep0 hf, StpAt.keep hf.iv0 hov, hext, hfr.trans hf (by simp), hfA, hfa, hcb⟩
theorem made_kd {kind : Int} (k : ByteArray) (v : Int) (h : kind ≠ 2) : KdOk (madeC kind k v).kd := KdOk.of (by
  unfold madeC
  by_cases k1 : kind = 1
  · rw [if_pos k1]; simp [Cl.new]
  · rw [if_neg k1, if_neg h]; simp [Cl.new])
theorem BT.keep0 {w w' : World} {A : TA} {x : Hold} {n : Nat} (h : BT w A x n) (hf : Fr [] w w') : BT w' A x n := by
  obtain ⟨t, L, hT, hg⟩ := h
  exact ⟨t, L, hT.keep0 hf, hg⟩
end Go.Proofs.Ytmhiolhgofackaa
