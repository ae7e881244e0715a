/- PACKAGE bst, PLAINLY: each call alone, on a quiet tree
PACKAGE bst, PLAINLY: Delete alone, on a quiet tree
PACKAGE bst, PLAINLY: the keys' order; what a tree holds
PACKAGE bst, PLAINLY: what a tree holds behind an Insert; an empty one -/
import Derived.Test.YthiobdhdefimhaaBsRem
import Derived.Test.YthiobdhdefimhaaBsNew
namespace Go.Proofs.Ythiobdhdefimhaa
open Go.RowKit
set_option linter.unusedVariables false
set_option linter.unusedSimpArgs false

/-- what an ended call leaves of the counts -/
structure Grown (t T : Tr) : Prop where
  n1 : T.ms.n ≤ t.ms.n + 70000
  ns : T.ns.length ≤ t.ns.length + 3
  ws : T.ws.length ≤ t.ws.length + 1
structure Fit (t : Tr) : Prop where
  n : t.ms.n ≤ 900000000
  ns : t.ns.length ≤ 59000
  ws : t.ws.length ≤ 700000000
theorem Fit.room {t : Tr} {L : PT} (h : Fit t) (hq : Quiet t L) (k : Nat) (hk : k ≤ 90000) : Room t k := ⟨by rw [hq.len]; have := h.ns; omega, by have := h.ns; omega, by have := h.n; omega, by have := h.ws; omega⟩
theorem Quiet.depth {t : Tr} {L : PT} (hq : Quiet t L) : L.depth ≤ t.ns.length := by
  have h1 := PT.depth_le L
  have h2 : (PT.node 2 L (.leaf 1)).inners.length ≤ t.ns.length := nodup_len hq.nodup (fun x hx => (at_inners hq.at_ x hx).lt)
  simp [PT.inners] at h2
  omega
theorem SameC.toward {t t' : Tr} (h : SameC t t') (p : Nat) (k : ByteArray) : t'.toward p k = t.toward p k := by unfold Tr.toward; rw [h.nd, h.left, h.right]
theorem Quiet.top2 {t : Tr} {L : PT} (hq : Quiet t L) (k : ByteArray) : (t.nd 2).above k = true ∧ t.toward 2 k = t.left 2 ∧ t.kid (t.toward 2 k) = L.pl ∧ InOk t 2 ∧ At t L ∧ Sides t k [topF] := by
  have h1 : (t.nd 2).above k = true := by unfold Nd.above; rw [hq.top]; rfl
  obtain ⟨a1, a2, a3, a4, a5⟩ := hq.at_
  refine ⟨h1, by unfold Tr.toward; rw [if_pos h1], ?_, a1, a4, fun f hf => ?_⟩
  · unfold Tr.toward; rw [if_pos h1]; exact a2
  · simp only [List.mem_singleton] at hf; subst hf; exact h1.symm
/-- where a key leads -/
def look (t : Tr) (k : ByteArray) : PT → Nat
  | .leaf p => p
  | .node p l r => if (t.nd p).above k then look t k l else look t k r
theorem goC_look (t : Tr) (m : Md) (hm : m ≠ .left) : ∀ (T : PT) (c : Cl), (goC t m c T).2 = look t c.key T := by
  intro T
  induction T with
  | leaf p => intro c; rfl
  | node p l r ihl ihr =>
    intro c
    have hgl : goesL t m p c.key = (t.nd p).above c.key := by cases m <;> first | rfl | exact absurd rfl hm
    have hk := (Cl.toward_key t c p m).1
    show (if goesL t m p c.key then goC t m (c.toward t p m).1 l else goC t m (c.toward t p m).1 r).2 = if (t.nd p).above c.key then look t c.key l else look t c.key r
    rw [hgl]
    split
    · rw [ihl, hk]
    · rw [ihr, hk]
theorem look_at {t : Tr} (k : ByteArray) : ∀ {T : PT}, At t T → LfOk t (look t k T)
  | .leaf p, h => h
  | .node p l r, ⟨_, _, _, h4, h5⟩ => by
    show LfOk t (if _ then _ else _)
    split
    · exact look_at k h4
    · exact look_at k h5
theorem goC_kd (t : Tr) (m : Md) : ∀ (T : PT) (c : Cl), (goC t m c T).1.kd = c.kd ∧ (goC t m c T).1.key = c.key ∧ (goC t m c T).1.val = c.val ∧ (goC t m c T).1.full = c.full ∧ (goC t m c T).1.path.length ≤ c.path.length + T.depth := by
  intro T
  induction T with
  | leaf p => intro c; exact ⟨rfl, rfl, rfl, rfl, Nat.le_add_right _ _⟩
  | node p l r ihl ihr =>
    intro c
    obtain ⟨k1, k2, k3, k4, _, k5⟩ := Cl.toward_key t c p m
    have hd : PT.depth (.node p l r) = max l.depth r.depth + 1 := rfl
    show (if goesL t m p c.key then goC t m (c.toward t p m).1 l else goC t m (c.toward t p m).1 r).1.kd = _ ∧ _
    cases hg : goesL t m p c.key
    · obtain ⟨a, b, d, e, f⟩ := ihr (c.toward t p m).1
      have hgo : goC t m c (.node p l r) = goC t m (c.toward t p m).1 r := by
        show (if goesL t m p c.key then _ else _) = _
        rw [hg, if_neg Bool.false_ne_true]
      rw [hgo]
      simp only [Bool.false_eq_true, if_false]
      exact ⟨a.trans k2, b.trans k1, d.trans k3, e.trans k4, by omega⟩
    · obtain ⟨a, b, d, e, f⟩ := ihl (c.toward t p m).1
      have hgo : goC t m c (.node p l r) = goC t m (c.toward t p m).1 l := by
        show (if goesL t m p c.key then _ else _) = _
        rw [hg, if_pos rfl]
      rw [hgo]
      simp only [if_true]
      exact ⟨a.trans k2, b.trans k1, d.trans k3, e.trans k4, by omega⟩
/-- Find -/
theorem op_fnd {t : Tr} {L : PT} (hq : Quiet t L) (hf : Fit t) (k : ByteArray) :
    ∃ n T C, OkRun n t (Cl.new .fnd k 0) (.desc (t.toward 2 k) .find) T C ∧ SameC t T ∧ Grown t T ∧ C.ans = (if (t.nd (look t k L)).has k then ⟨true, k, (t.nd (look t k L)).val, 0⟩ else ⟨false, k, 0, 0⟩) := by
  obtain ⟨h1, h2, h3, h4, h5, h6⟩ := hq.top2 k
  have hdep := hq.depth
  have hlk := look_at (t := t) k h5
  obtain ⟨g1, g2, g3, g4, g5⟩ := goC_kd t .find L (Cl.new .fnd k 0)
  have hgo := goC_look t .find (by intro e; cases e) L (Cl.new .fnd k 0)
  have hnf := hf.ns
  obtain ⟨T, s1, s2, s3⟩ := desc_run .find L t (Cl.new .fnd k 0) (t.toward 2 k) 1 h5 h3 (hf.room hq _ (by omega)) (by show 0 + L.depth ≤ _; omega) trivial (by
    refine ⟨by rw [hgo]; exact hlk.1, by have : (Cl.new .fnd k 0).path.length = 0 := rfl; omega, (fun e => by rw [g1] at e; cases e), (fun e => by rw [g1] at e; cases e), (fun e => by rw [g1] at e; cases e)⟩)
  obtain ⟨c', hc'⟩ : ∃ c', c' = (goC t .find (Cl.new .fnd k 0) L).1 := ⟨_, rfl⟩
  rw [← hc'] at s3 g1 g2
  rw [hgo] at s3
  have hkey : (Cl.new .fnd k 0).key = k := rfl
  rw [hkey] at s3 g2
  have hleaf : c'.leaf t (look t k L) .find = if (t.nd (look t k L)).has k then (c'.tell ⟨true, k, (t.nd (look t k L)).val, 0⟩, none) else (c'.tell ⟨false, k, 0, 0⟩, none) := by unfold Cl.leaf; rw [g1, g2]; rfl
  refine ⟨_, T, c'.tell (if (t.nd (look t k L)).has k then ⟨true, k, (t.nd (look t k L)).val, 0⟩ else ⟨false, k, 0, 0⟩), s3 0 _ _ ?_, s1, ⟨by omega, by rw [s1.ns]; omega, by rw [s1.ws]; omega⟩, rfl⟩
  · rw [hleaf]
    split
    · exact ⟨rfl, rfl⟩
    · exact ⟨rfl, rfl⟩
/-- Insert -/
theorem op_ins {t : Tr} {L : PT} (hq : Quiet t L) (hf : Fit t) (k : ByteArray) (v : Int) :
    ∃ n T C, OkRun n t (Cl.new .ins k v) .beg T C ∧ Grown t T ∧
      if (t.nd (look t k L)).has k then SameC t T ∧ C.ans = ⟨false, k, (t.nd (look t k L)).val, 0⟩
      else C.ans = ⟨true, k, v, 0⟩ ∧ ∃ t3 f D L', SameC t t3 ∧ T = insT t3 f (look t k L) k v ∧ Sides t k (f :: D) ∧ (f :: D).getLast? = some topF ∧ plug (f :: D) (.leaf (look t k L)) = .node 2 L (.leaf 1) ∧
        plug (f :: D) (.node (t.ns.length + 2) (.leaf t.ns.length) (.leaf (t.ns.length + 1))) = .node 2 L' (.leaf 1) ∧ Quiet T L' := by
  obtain ⟨h1, h2, h3, h4, h5, h6⟩ := hq.top2 k
  have hdep := hq.depth
  have hlk := look_at (t := t) k h5
  have hnf := hf.ns
  have hroom : t.room = true := by unfold Tr.room; apply decide_eq_true; rw [hq.len]; omega
  obtain ⟨c1, hc1⟩ : ∃ c1 : Cl, c1 = { Cl.new .ins k v with full := !t.room, path := [⟨2, false, 0⟩] } := ⟨_, rfl⟩
  have hfull : c1.full = false := by rw [hc1]; show (!t.room) = false; rw [hroom]; rfl
  have hkey : c1.key = k := by rw [hc1]; rfl
  have hval : c1.val = v := by rw [hc1]; rfl
  have hkd : c1.kd = .ins := by rw [hc1]; rfl
  have hov : c1.over = none := by rw [hc1]; rfl
  have hpath : c1.path = pathOf [topF] := by rw [hc1]; rfl
  obtain ⟨f, D, l, hgo, hpl, hsd, htp, _⟩ := goC_way t L topF [] c1 hpath (by rw [hkey]; exact h6)
  have hl : l = look t k L := by have := goC_look t .way (by intro e; cases e) L c1; rw [hgo, hkey] at this; exact this
  have hplug : plug (f :: D) (.leaf l) = .node 2 L (.leaf 1) := by rw [hpl]; rfl
  have htop : (f :: D).getLast? = some topF := by rw [htp]; rfl
  obtain ⟨c2, hc2⟩ : ∃ c2 : Cl, c2 = { c1 with path := pathOf (f :: D) } := ⟨_, rfl⟩
  rw [← hc2] at hgo
  have k2 : c2.kd = .ins ∧ c2.key = k ∧ c2.val = v ∧ c2.full = false ∧ c2.over = none ∧ c2.path = pathOf (f :: D) := by rw [hc2]; exact ⟨hkd, hkey, hval, hfull, hov, rfl⟩
  have hg := goC_kd t .way L c1
  rw [hgo] at hg
  have hp1 : c1.path.length = 1 := by rw [hpath]; rfl
  have hok : LeafOk t (goC t .way c1 L).1 (goC t .way c1 L).2 .way := by
    rw [hgo]
    refine ⟨by dsimp only; rw [hl]; exact hlk.1, by have := hg.2.2.2.2; dsimp only at this ⊢; omega, fun _ => by rw [k2.2.2.2.2.2]; simp [pathOf], (fun e => by rw [k2.1] at e; cases e), (fun e => by rw [k2.1] at e; cases e)⟩
  have hbr : t.kid (t.toward 2 k) = L.pl := h3
  obtain ⟨T1, s1, n1, run1⟩ := desc_run .way L t c1 (t.toward 2 k) 20 h5 hbr (hf.room hq _ (by omega)) (by omega) (by rw [hkd]; trivial) hok
  rw [hgo] at run1
  have hbeg : ∀ n T C, OkRun n t c1 (.desc (t.toward 2 k) .way) T C → OkRun n t (Cl.new .ins k v) .beg T C := by
    intro n T C h
    cases n with
    | zero => exact h.elim
    | succ n =>
      obtain ⟨⟨q1, q2⟩, q3, q4⟩ := h
      refine ⟨⟨rfl, h4.nd (by omega), ?_⟩, (hf.room hq 0 (by omega)).small (by show 0 ≤ _; omega), ?_⟩
      · rw [← hc1]; exact q2
      · have e : stepP t (Cl.new .ins k v) .beg = stepP t c1 (.desc (t.toward 2 k) .way) := by
          show (t.ask (t.toward 2 k).cell, ({ Cl.new .ins k v with full := !t.room, path := [⟨2, false, 0⟩] } : Cl).desc t (t.kid (t.toward 2 k)) .way) = (t.ask (t.toward 2 k).cell, c1.desc (t.ask (t.toward 2 k).cell) (t.kid (t.toward 2 k)) .way)
          rw [← hc1]
          have hs := SameC.ask t (t.toward 2 k).cell
          unfold Cl.desc
          rw [hs.nd, leaf_same hs, Cl.toward_same hs]
          have : (c1.toward (t.ask (t.toward 2 k).cell) (t.kid (t.toward 2 k)) .way).2 = (c1.toward t (t.kid (t.toward 2 k)) .way).2 := hs.toward _ _
          rw [this]
        rw [e]; exact q4
  have hleaf : c2.leaf t l .way = if (t.nd l).has k then (c2.tell ⟨false, k, (t.nd l).val, 0⟩, none) else (c2, some .look) := by
    have hup := up_pathOf k2.2.2.2.2.2
    unfold Cl.leaf; rw [k2.1]; dsimp only; rw [k2.2.1, k2.2.2.2.1, hup]; rfl
  cases hh : (t.nd l).has k
  · rw [hh, if_neg Bool.false_ne_true] at hleaf
    have hq1 := s1.quiet hq
    have hroom1 : T1.room = true := by unfold Tr.room; rw [s1.c]; exact hroom
    have hnd1 : (T1.nd l).has c2.key = false := by rw [s1.nd, k2.2.1]; exact hh
    have hsd1 : Sides T1 c2.key (f :: D) := fun x hx => by rw [s1.nd, k2.2.1]; rw [hkey] at hsd; exact hsd x hx
    have hr1 : Room T1 10 := by
      have := hf.room hq (10 + (L.depth + 1)) (by omega)
      exact Room.same this s1 n1
    obtain ⟨t3, cz, s3, n3, hans, run3⟩ := ins_steps hq1 hplug htop k2.1 k2.2.2.2.2.2 k2.2.2.2.1 k2.2.2.2.2.1 hsd1 hnd1 hr1 hroom1 (by rw [s1.ns]; omega)
    rw [k2.2.1, k2.2.2.1] at run3 hans
    have s13 := s1.trans s3
    have hq3 := s13.quiet hq
    have hside3 : f.lt = (t3.nd f.p).above k := by rw [s13.nd]; rw [hkey] at hsd; exact hsd f (by simp)
    have hroom3 : t3.room = true := by unfold Tr.room; rw [s13.c]; exact hroom
    obtain ⟨cat, cns, clen, cisu, cn, cws, clive⟩ := ins_cells hq3 hplug htop k v hside3 hroom3
    obtain ⟨L', hq6, hp6, hm6⟩ := ins_quiet hq3 hplug htop k v hside3 hroom3 (by rw [s13.ns]; omega)
    rw [s13.ns] at hp6
    refine ⟨_, insT t3 f l k v, cz, hbeg _ _ _ (run1 5 _ _ ?_), ⟨by omega, by rw [cns, s13.ns]; simp, by rw [cws, s13.ws]; simp⟩, ?_⟩
    · rw [hleaf]; exact run3
    · rw [← hl, hh, if_neg Bool.false_ne_true]
      exact ⟨hans, t3, f, D, L', s13, rfl, by rw [hkey] at hsd; exact hsd, htop, hplug, hp6, hq6⟩
  · rw [hh, if_pos rfl] at hleaf
    refine ⟨_, T1, c2.tell ⟨false, k, (t.nd l).val, 0⟩, hbeg _ _ _ (run1 0 _ _ ?_), ⟨by omega, by rw [s1.ns]; omega, by rw [s1.ws]; omega⟩, ?_⟩
    · rw [hleaf]; exact ⟨rfl, rfl⟩
    · rw [← hl, hh, if_pos rfl]
      exact ⟨s1, rfl⟩
end Go.Proofs.Ythiobdhdefimhaa
namespace Go.Proofs.Ythiobdhdefimhaa
open Go.RowKit
set_option linter.unusedVariables false
set_option linter.unusedSimpArgs false

theorem cut_pathOf {c : Cl} {f : Fm} {D : List Fm} (h : c.path = pathOf (f :: D)) : (c.cut 1).path = pathOf D := by
  unfold Cl.cut
  dsimp only
  rw [h]
  have : pathOf (f :: D) = pathOf D ++ [⟨f.p, false, 0⟩] := by simp [pathOf]
  rw [this]
  simp
theorem op_rem {t : Tr} {L : PT} (hq : Quiet t L) (hf : Fit t) (k : ByteArray) :
    ∃ n T C, OkRun n t (Cl.new .rem k 0).start (.desc (t.toward 2 k) .way) T C ∧ Grown t T ∧
      if (t.nd (look t k L)).has k then C.ans = ⟨true, k, (t.nd (look t k L)).val, 0⟩ ∧ ∃ t3 f g D L', SameC t t3 ∧ T = remT t3 f g k ∧ Sides t k (f :: g :: D) ∧ (f :: g :: D).getLast? = some topF ∧ plug (f :: g :: D) (.leaf (look t k L)) = .node 2 L (.leaf 1) ∧
        plug (g :: D) f.sib = .node 2 L' (.leaf 1) ∧ Quiet T L'
      else SameC t T ∧ C.ans = ⟨false, k, 0, 0⟩ := by
  obtain ⟨h1, h2, h3, h4, h5, h6⟩ := hq.top2 k
  have hdep := hq.depth
  have hlk := look_at (t := t) k h5
  have hnf := hf.ns
  obtain ⟨c1, hc1⟩ : ∃ c1 : Cl, c1 = (Cl.new .rem k 0).start := ⟨_, rfl⟩
  have hkey : c1.key = k := by rw [hc1]; rfl
  have hkd : c1.kd = .rem := by rw [hc1]; rfl
  have hov : c1.over = none := by rw [hc1]; rfl
  have hpath : c1.path = pathOf [topF] := by rw [hc1]; rfl
  rw [← hc1]
  obtain ⟨f, D, l, hgo, hpl, hsd, htp, _⟩ := goC_way t L topF [] c1 hpath (by rw [hkey]; exact h6)
  have hl : l = look t k L := by have := goC_look t .way (by intro e; cases e) L c1; rw [hgo, hkey] at this; exact this
  have hplug : plug (f :: D) (.leaf l) = .node 2 L (.leaf 1) := by rw [hpl]; rfl
  have htop : (f :: D).getLast? = some topF := by rw [htp]; rfl
  obtain ⟨c2, hc2⟩ : ∃ c2 : Cl, c2 = { c1 with path := pathOf (f :: D) } := ⟨_, rfl⟩
  rw [← hc2] at hgo
  have k2 : c2.kd = .rem ∧ c2.key = k ∧ c2.over = none ∧ c2.path = pathOf (f :: D) := by rw [hc2]; exact ⟨hkd, hkey, hov, rfl⟩
  have hg := goC_kd t .way L c1
  rw [hgo] at hg
  have hp1 : c1.path.length = 1 := by rw [hpath]; rfl
  have hD : (t.nd l).has k = true → D ≠ [] := by
    intro hh e
    subst e
    simp at htop
    subst htop
    simp only [plug, Fm.fill, topF, if_true, PT.node.injEq, true_and, and_true] at hplug
    have := hq.last
    rw [← hplug] at this
    unfold Nd.has at hh
    rw [show (t.nd l).fin = true from this] at hh
    simp at hh
  have hok : LeafOk t (goC t .way c1 L).1 (goC t .way c1 L).2 .way := by
    rw [hgo]
    refine ⟨by dsimp only; rw [hl]; exact hlk.1, by have := hg.2.2.2.2; dsimp only at this ⊢; omega, (fun e => by rw [k2.1] at e; cases e), fun _ hh => ?_, (fun e => by rw [k2.1] at e; cases e)⟩
    rw [k2.2.1] at hh
    have := List.length_pos_iff.2 (hD hh)
    rw [k2.2.2.2, pathOf_len]
    simp only [List.length_cons]; omega
  obtain ⟨T1, s1, n1, run1⟩ := desc_run .way L t c1 (t.toward 2 k) 30 h5 h3 (hf.room hq _ (by omega)) (by omega) (by rw [hkd]; trivial) hok
  rw [hgo] at run1
  cases hh : (t.nd l).has k
  · have hleaf : c2.leaf t l .way = (c2.tell ⟨false, k, 0, 0⟩, none) := by
      unfold Cl.leaf; rw [k2.1]; dsimp only; rw [k2.2.1, hh, if_neg Bool.false_ne_true]
    refine ⟨_, T1, c2.tell ⟨false, k, 0, 0⟩, run1 0 _ _ ?_, ⟨by omega, by rw [s1.ns]; omega, by rw [s1.ws]; omega⟩, ?_⟩
    · dsimp only; rw [hleaf]; exact ⟨rfl, rfl⟩
    · rw [← hl, hh, if_neg Bool.false_ne_true]; exact ⟨s1, rfl⟩
  · obtain ⟨g, D', rfl⟩ : ∃ g D', D = g :: D' := by
      cases D with
      | nil => exact absurd rfl (hD hh)
      | cons g D' => exact ⟨g, D', rfl⟩
    have hleaf : c2.leaf t l .way = (c2.cut 1, some .look) := by
      have hup := up1_pathOf k2.2.2.2
      unfold Cl.leaf; rw [k2.1]; dsimp only; rw [k2.2.1, hh, if_pos rfl, hup]; rfl
    have hq1 := s1.quiet hq
    have hcut := cut_pathOf k2.2.2.2
    have hr1 : Room T1 20 := Room.same (hf.room hq (20 + (L.depth + 1)) (by omega)) s1 n1
    have hsd1 : Sides T1 (c2.cut 1).key (f :: g :: D') := fun x hx => by rw [s1.nd]; show _ = (t.nd x.p).above c2.key; rw [k2.2.1]; rw [hkey] at hsd; exact hsd x hx
    have hh1 : (T1.nd l).has (c2.cut 1).key = true := by rw [s1.nd]; show (t.nd l).has c2.key = true; rw [k2.2.1]; exact hh
    obtain ⟨t3, cz, s3, n3, hans, run3⟩ := rem_steps hq1 hplug htop (c := c2.cut 1) k2.1 hcut k2.2.2.1 hsd1 hh1 hr1
    have hck : (c2.cut 1).key = k := k2.2.1
    rw [hck] at run3 hans
    have s13 := s1.trans s3
    have hq3 := s13.quiet hq
    obtain ⟨cat, cns, clen, cisu, cn, cws, clive⟩ := rem_cells hq3 hplug htop k
    obtain ⟨L', hq6, hp6, hm6⟩ := rem_quiet hq3 hplug htop k (by rw [s13.nd]; exact hh)
    refine ⟨_, remT t3 f g k, cz, run1 9 _ _ ?_, ⟨by omega, by rw [cns, s13.ns]; omega, by rw [cws, s13.ws]; simp⟩, ?_⟩
    · dsimp only; rw [hleaf]; exact run3
    · rw [← hl, hh, if_pos rfl]
      rw [s1.nd] at hans
      exact ⟨hans, t3, f, g, D', L', s13, rfl, by rw [hkey] at hsd; exact hsd, htop, hplug, hp6, hq6⟩
end Go.Proofs.Ythiobdhdefimhaa
namespace Go.Proofs.Ythiobdhdefimhaa
open Go.RowKit
set_option linter.unusedVariables false
set_option linter.unusedSimpArgs false

/-- a leaf's key is on this side of a node; an end leaf is to the left of end nodes alone -/
def SideOk (t : Tr) (p : Nat) (b : Bool) (q : Nat) : Prop := ((t.nd q).fin = false → (t.nd p).above (t.nd q).key = b) ∧ ((t.nd q).fin = true → b = true → (t.nd p).fin = true)
def Ord (t : Tr) : PT → Prop
  | .leaf _ => True
  | .node p l r => (∀ q ∈ l.leaves, SideOk t p true q) ∧ (∀ q ∈ r.leaves, SideOk t p false q) ∧ Ord t l ∧ Ord t r
def CxOrd (t : Tr) : List Fm → Prop
  | [] => True
  | f :: C => (∀ q ∈ f.sib.leaves, SideOk t f.p (!f.lt) q) ∧ Ord t f.sib ∧ (∀ g ∈ C, ∀ q ∈ f.sib.leaves, SideOk t g.p g.lt q) ∧ CxOrd t C
theorem ord_fill {t : Tr} {f : Fm} {T : PT} : Ord t (f.fill T) ↔ (∀ q ∈ T.leaves, SideOk t f.p f.lt q) ∧ (∀ q ∈ f.sib.leaves, SideOk t f.p (!f.lt) q) ∧ Ord t T ∧ Ord t f.sib := by
  unfold Fm.fill
  cases f.lt
  · exact ⟨fun ⟨h1, h2, h3, h4⟩ => ⟨h2, h1, h4, h3⟩, fun ⟨h2, h1, h4, h3⟩ => ⟨h1, h2, h3, h4⟩⟩
  · exact Iff.rfl
theorem fill_leaves (f : Fm) (T : PT) (q : Nat) : q ∈ (f.fill T).leaves ↔ q ∈ T.leaves ∨ q ∈ f.sib.leaves := by
  unfold Fm.fill
  cases f.lt
  · simp only [Bool.false_eq_true, if_false, PT.leaves, List.mem_append]; exact Or.comm
  · simp only [if_true, PT.leaves, List.mem_append]
theorem ord_plug {t : Tr} : ∀ {C : List Fm} {T : PT}, Ord t (plug C T) ↔ CxOrd t C ∧ Ord t T ∧ ∀ f ∈ C, ∀ q ∈ T.leaves, SideOk t f.p f.lt q
  | [], T => ⟨fun h => ⟨trivial, h, by simp⟩, fun h => h.2.1⟩
  | f :: C, T => by
    show Ord t (plug C (f.fill T)) ↔ _
    rw [ord_plug, ord_fill]
    constructor
    · rintro ⟨h1, ⟨h2, h3, h4, h5⟩, h6⟩
      refine ⟨⟨h3, h5, fun g hg q hq => h6 g hg q ((fill_leaves f T q).2 (Or.inr hq)), h1⟩, h4, fun g hg q hq => ?_⟩
      rcases List.mem_cons.1 hg with rfl | hg
      · exact h2 q hq
      · exact h6 g hg q ((fill_leaves f T q).2 (Or.inl hq))
    · rintro ⟨⟨h3, h5, h6, h1⟩, h4, h7⟩
      refine ⟨h1, ⟨h7 f (by simp), h3, h4, h5⟩, fun g hg q hq => ?_⟩
      rcases (fill_leaves f T q).1 hq with hq | hq
      · exact h7 g (List.mem_cons_of_mem _ hg) q hq
      · exact h6 g hg q hq
/-- what a tree holds at a key -/
def cont (t : Tr) (L : PT) (k : ByteArray) : Option Int := if (t.nd (look t k L)).has k then some (t.nd (look t k L)).val else none
theorem look_fill (t : Tr) (k : ByteArray) (f : Fm) (T : PT) : look t k (f.fill T) = if (t.nd f.p).above k = f.lt then look t k T else look t k f.sib := by
  unfold Fm.fill
  cases f.lt
  · show (if (t.nd f.p).above k then look t k f.sib else look t k T) = _
    cases (t.nd f.p).above k <;> rfl
  · show (if (t.nd f.p).above k then look t k T else look t k f.sib) = _
    cases (t.nd f.p).above k <;> rfl
theorem look_plug (t : Tr) (k : ByteArray) : ∀ (C : List Fm) (T : PT), (Sides t k C → look t k (plug C T) = look t k T) ∧ (¬ Sides t k C → ∀ T', look t k (plug C T) = look t k (plug C T'))
  | [], T => ⟨fun _ => rfl, fun h => absurd (fun f hf => by cases hf) h⟩
  | f :: C, T => by
    obtain ⟨h1, h2⟩ := look_plug t k C (f.fill T)
    refine ⟨fun hs => ?_, fun hs T' => ?_⟩
    · show look t k (plug C (f.fill T)) = _
      rw [h1 (fun g hg => hs g (List.mem_cons_of_mem _ hg)), look_fill, if_pos (hs f (by simp)).symm]
    · show look t k (plug C (f.fill T)) = look t k (plug C (f.fill T'))
      by_cases hC : Sides t k C
      · have h3 := (look_plug t k C (f.fill T')).1 hC
        rw [h1 hC, h3, look_fill, look_fill]
        have hf : ¬ (t.nd f.p).above k = f.lt := fun e => hs (fun g hg => by
          rcases List.mem_cons.1 hg with rfl | hg
          · exact e.symm
          · exact hC g hg)
        rw [if_neg hf, if_neg hf]
      · exact h2 hC _
theorem look_leaf (t : Tr) (k : ByteArray) : ∀ T : PT, look t k T ∈ T.leaves
  | .leaf p => by simp [look, PT.leaves]
  | .node p l r => by
    show (if _ then _ else _) ∈ l.leaves ++ r.leaves
    split
    · exact List.mem_append_left _ (look_leaf t k l)
    · exact List.mem_append_right _ (look_leaf t k r)
theorem has_iff {n : Nd} {k : ByteArray} : n.has k = true ↔ n.fin = false ∧ n.key = k := by
  unfold Nd.has
  rw [Bool.and_eq_true, Bool.not_eq_true', beq_iff_eq]
  exact ⟨fun ⟨a, b⟩ => ⟨a, (bs_inj b).symm⟩, fun ⟨a, b⟩ => ⟨a, by rw [b]⟩⟩
/-- the same nodes -/
theorem ord_nd {t t' : Tr} : ∀ {T : PT}, (∀ p, p ∈ T.inners ∨ p ∈ T.leaves → t'.nd p = t.nd p) → Ord t T → Ord t' T
  | .leaf _, _, _ => trivial
  | .node p l r, h, ⟨h1, h2, h3, h4⟩ => by
    have hp := h p (Or.inl (by simp [PT.inners]))
    refine ⟨fun q hq => ?_, fun q hq => ?_, ord_nd (fun x hx => h x (hx.imp (fun hx => by simp [PT.inners, hx]) (fun hx => by simp [PT.leaves, hx]))) h3, ord_nd (fun x hx => h x (hx.imp (fun hx => by simp [PT.inners, hx]) (fun hx => by simp [PT.leaves, hx]))) h4⟩
    · unfold SideOk; rw [hp, h q (Or.inr (by simp [PT.leaves, hq]))]; exact h1 q hq
    · unfold SideOk; rw [hp, h q (Or.inr (by simp [PT.leaves, hq]))]; exact h2 q hq
theorem look_nd {t t' : Tr} (k : ByteArray) : ∀ {T : PT}, (∀ p ∈ T.inners, t'.nd p = t.nd p) → look t' k T = look t k T
  | .leaf _, _ => rfl
  | .node p l r, h => by
    show (if (t'.nd p).above k then _ else _) = (if (t.nd p).above k then _ else _)
    rw [h p (by simp [PT.inners]), look_nd k (fun x hx => h x (by simp [PT.inners, hx])), look_nd k (fun x hx => h x (by simp [PT.inners, hx]))]
theorem at_leaves {t : Tr} : ∀ {T : PT}, At t T → ∀ q ∈ T.leaves, LfOk t q
  | .leaf p, h, q, hq => by simp [PT.leaves] at hq; subst hq; exact h
  | .node p l r, ⟨_, _, _, h4, h5⟩, q, hq => by
    rcases List.mem_append.1 hq with hq | hq
    · exact at_leaves h4 q hq
    · exact at_leaves h5 q hq
/-- a Delete's -/
theorem rem_cont {t T : Tr} {f g : Fm} {D : List Fm} {l : Nat} {L L' : PT} {k : ByteArray} (hnd : ∀ p, T.nd p = t.nd p) (hp : plug (f :: g :: D) (.leaf l) = .node 2 L (.leaf 1)) (hp' : plug (g :: D) f.sib = .node 2 L' (.leaf 1)) (hs : Sides t k (f :: g :: D)) (ho : Ord t (.node 2 L (.leaf 1))) (hh : (t.nd l).has k = true) (htop : ∀ k, (t.nd 2).above k = true) :
    Ord T (.node 2 L' (.leaf 1)) ∧ ∀ k', cont T L' k' = if k' = k then none else cont t L k' := by
  have ho' := ho
  rw [← hp, ord_plug] at ho'
  obtain ⟨⟨c1, c2, c3, c4⟩, _, c5⟩ := ho'
  have hor : Ord T (.node 2 L' (.leaf 1)) := by
    refine ord_nd (fun p _ => hnd p) ?_
    rw [← hp', ord_plug]
    exact ⟨c4, c2, c3⟩
  refine ⟨hor, fun k' => ?_⟩
  have lk : ∀ (t : Tr) X k, (∀ k, (t.nd 2).above k = true) → look t k (.node 2 X (.leaf 1)) = look t k X := fun t X k h => by
    show (if (t.nd 2).above k then _ else _) = _
    rw [if_pos (h k)]
  have e1 : look T k' L' = look t k' (plug (g :: D) f.sib) := by
    rw [hp', lk t L' k' htop]
    exact look_nd k' (fun p _ => hnd p)
  have e2 : look t k' L = look t k' (plug (g :: D) (f.fill (.leaf l))) := by
    rw [← lk t L k' htop, ← hp]; rfl
  unfold cont
  rw [e1, e2, hnd]
  obtain ⟨hl1, hl2⟩ := has_iff.1 hh
  by_cases hC : Sides t k' (g :: D)
  · rw [(look_plug t k' (g :: D) _).1 hC, (look_plug t k' (g :: D) _).1 hC, look_fill]
    have hsibno : (t.nd f.p).above k' = f.lt → (t.nd (look t k' f.sib)).has k' = false := fun hab => by
      cases hx : (t.nd (look t k' f.sib)).has k'
      · rfl
      · obtain ⟨a, b⟩ := has_iff.1 hx
        have := (c1 _ (look_leaf t k' f.sib)).1 a
        rw [b, hab] at this
        cases hf : f.lt <;> rw [hf] at this <;> cases this
    by_cases hab : (t.nd f.p).above k' = f.lt
    · rw [if_pos hab, hsibno hab, if_neg Bool.false_ne_true]
      by_cases hk : k' = k
      · rw [if_pos hk]
      · rw [if_neg hk]
        show none = if (t.nd l).has k' then _ else _
        rw [if_neg (fun e => hk ((has_iff.1 e).2.symm.trans hl2))]
    · rw [if_neg hab]
      have hk : k' ≠ k := fun e => hab (by rw [e]; exact (hs f (by simp)).symm)
      rw [if_neg hk]
  · rw [(look_plug t k' (g :: D) f.sib).2 hC (f.fill (.leaf l))]
    have hk : k' ≠ k := fun e => hC (by rw [e]; exact fun x hx => hs x (List.mem_cons_of_mem _ hx))
    rw [if_neg hk]
end Go.Proofs.Ythiobdhdefimhaa
namespace Go.Proofs.Ythiobdhdefimhaa
open Go.RowKit
set_option linter.unusedVariables false
set_option linter.unusedSimpArgs false

theorem above_iff {n : Nd} {k : ByteArray} : n.above k = true ↔ n.fin = true ∨ ls k.toList n.key.toList = true := by
  unfold Nd.above ls; rw [Bool.or_eq_true]
/-- at most at one leaf -/
theorem has_one {a b : Nd} {k : ByteArray} (ha : a.has k = true) (hb : b.has k = true) : a.key = b.key := (has_iff.1 ha).2.trans (has_iff.1 hb).2.symm
theorem plug_lt {t : Tr} {C : List Fm} {X : PT} {Y : PT} (h : At t Y) (hp : plug C X = Y) : ∀ p, p ∈ (plug C X).inners ∨ p ∈ (plug C X).leaves → p < t.ns.length := by
  intro p hh
  rw [hp] at hh
  rcases hh with hh | hh
  · exact (at_inners h p hh).lt
  · exact (at_leaves h p hh).1
theorem ins_cont {t T : Tr} {f : Fm} {D : List Fm} {l : Nat} {L L' : PT} {k : ByteArray} {v c : Int} (hat : At t (.node 2 L (.leaf 1))) (hnd : ∀ p, p < t.ns.length → T.nd p = t.nd p) (n0 : T.nd t.ns.length = lowN t l k v) (n1 : T.nd (t.ns.length + 1) = highN t l k v) (n2 : T.nd (t.ns.length + 2) = ⟨true, (highN t l k v).fin, (highN t l k v).key, 0, c⟩)
    (hp : plug (f :: D) (.leaf l) = .node 2 L (.leaf 1)) (hp' : plug (f :: D) (.node (t.ns.length + 2) (.leaf t.ns.length) (.leaf (t.ns.length + 1))) = .node 2 L' (.leaf 1)) (hs : Sides t k (f :: D)) (ho : Ord t (.node 2 L (.leaf 1))) (hh : (t.nd l).has k = false) (htop : ∀ k, (t.nd 2).above k = true) :
    Ord T (.node 2 L' (.leaf 1)) ∧ ∀ k', cont T L' k' = if k' = k then some v else cont t L k' := by
  obtain ⟨n, hn⟩ : ∃ n, n = t.ns.length := ⟨_, rfl⟩
  rw [← hn] at hnd n0 n1 n2 hp'
  have hlt := plug_lt (C := f :: D) (X := .leaf l) hat hp
  rw [← hn] at hlt
  have i2 : 2 < n := by rw [hn]; exact (at_inners hat 2 (by simp [PT.inners])).lt
  have hoT : Ord T (plug (f :: D) (.leaf l)) := ord_nd (fun p hpp => hnd p (hlt p hpp)) (by rw [hp]; exact ho)
  have hot : Ord t (plug (f :: D) (.leaf l)) := by rw [hp]; exact ho
  rw [ord_plug] at hoT hot
  obtain ⟨cT, _, _⟩ := hoT
  obtain ⟨ct, _, sl⟩ := hot
  have hpin : ∀ g ∈ f :: D, g.p < n := fun g hg => hlt g.p (Or.inl ((plug_inners (f :: D) (.leaf l)).mem_iff.2 (List.mem_append_left _ (by
    clear hp hp' hs ct cT sl hlt hat
    revert hg
    generalize f :: D = C
    induction C with
    | nil => intro h; cases h
    | cons a C ih =>
      intro h
      rcases List.mem_cons.1 h with rfl | h
      · simp [cxInners]
      · simp only [cxInners, List.mem_cons, List.mem_append]; exact Or.inr (Or.inr (ih h)))) ))
  have hsT : ∀ g ∈ f :: D, ∀ q ∈ (PT.node (n + 2) (.leaf n) (.leaf (n + 1))).leaves, SideOk T g.p g.lt q := by
    intro g hg q hq
    unfold SideOk
    rw [hnd _ (hpin g hg)]
    have hk : (t.nd g.p).above k = g.lt := (hs g hg).symm
    have hl := sl g hg l (by simp [PT.leaves])
    simp only [PT.leaves, List.cons_append, List.nil_append, List.mem_cons, List.not_mem_nil, or_false] at hq
    rcases hq with rfl | rfl
    · rw [n0]
      unfold lowN
      by_cases ha : (t.nd l).above k = true
      · rw [if_pos ha]; exact ⟨fun _ => hk, fun e => by cases e⟩
      · rw [if_neg ha]; exact hl
    · rw [n1]
      unfold highN
      by_cases ha : (t.nd l).above k = true
      · rw [if_pos ha]; exact hl
      · rw [if_neg ha]; exact ⟨fun _ => hk, fun e => by cases e⟩
  have hne : (t.nd l).fin = false → (t.nd l).key ≠ k := fun h e => by
    have := (has_iff (n := t.nd l) (k := k)).2 ⟨h, e⟩
    rw [hh] at this; cases this
  have hlow : (t.nd l).above k = false → (t.nd l).fin = false ∧ ls (t.nd l).key.toList k.toList = true := fun ha => by
    unfold Nd.above at ha
    rw [Bool.or_eq_false_iff] at ha
    refine ⟨ha.1, ?_⟩
    cases hx : ls (t.nd l).key.toList k.toList
    · exact absurd (bs_inj (ls_total hx ha.2)) (hne ha.1)
    · rfl
  have hor : Ord T (.node 2 L' (.leaf 1)) := by
    rw [← hp', ord_plug]
    refine ⟨cT, ⟨fun q hq => ?_, fun q hq => ⟨fun hf => ?_, fun _ e => (by cases e)⟩, trivial, trivial⟩, hsT⟩
    · simp only [PT.leaves, List.mem_singleton] at hq
      subst hq
      unfold SideOk
      rw [n2, n0]
      unfold lowN highN
      by_cases ha : (t.nd l).above k = true
      · rw [if_pos ha, if_pos ha]; exact ⟨fun _ => ha, fun e => by cases e⟩
      · rw [if_neg ha, if_neg ha]
        obtain ⟨x1, x2⟩ := hlow (by simpa using ha)
        exact ⟨fun _ => above_iff.2 (Or.inr x2), fun e => by rw [x1] at e; cases e⟩
    · simp only [PT.leaves, List.mem_singleton] at hq
      subst hq
      rw [n2]
      rw [n1] at hf ⊢
      unfold Nd.above
      dsimp only
      rw [hf, Bool.false_or]
      exact ls_irrefl _
  refine ⟨hor, fun k' => ?_⟩
  have lk : ∀ (t : Tr) X k, (∀ k, (t.nd 2).above k = true) → look t k (.node 2 X (.leaf 1)) = look t k X := fun t X k h => by
    show (if (t.nd 2).above k then _ else _) = _
    rw [if_pos (h k)]
  have htop' : ∀ k, (T.nd 2).above k = true := fun k => by rw [hnd 2 i2]; exact htop k
  have e1 : look T k' L' = look T k' (plug (f :: D) (.node (n + 2) (.leaf n) (.leaf (n + 1)))) := by rw [hp', lk T L' k' htop']
  have e2 : look t k' L = look t k' (plug (f :: D) (.leaf l)) := by rw [hp, lk t L k' htop]
  have hsame : ∀ g ∈ f :: D, (T.nd g.p) = t.nd g.p := fun g hg => hnd _ (hpin g hg)
  unfold cont
  rw [e1, e2]
  by_cases hC : Sides t k' (f :: D)
  · have hCT : Sides T k' (f :: D) := fun g hg => by rw [hsame g hg]; exact hC g hg
    rw [(look_plug T k' (f :: D) _).1 hCT, (look_plug t k' (f :: D) _).1 hC]
    have hlook : look T k' (.node (n + 2) (.leaf n) (.leaf (n + 1))) = if (T.nd (n + 2)).above k' then n else n + 1 := rfl
    have hl0 : look t k' (.leaf l) = l := rfl
    rw [hlook, n2, hl0]
    by_cases ha : (t.nd l).above k = true
    · have hlo : lowN t l k v = leafOf k v := by unfold lowN; rw [if_pos ha]
      have hhi : highN t l k v = t.nd l := by unfold highN; rw [if_pos ha]
      rw [hlo] at n0
      rw [hhi] at n1
      rw [hhi]
      have hab : (⟨true, (t.nd l).fin, (t.nd l).key, 0, c⟩ : Nd).above k' = (t.nd l).above k' := rfl
      rw [hab]
      by_cases hk : k' = k
      · subst hk
        rw [if_pos ha, n0, if_pos (show (leafOf k' v).has k' = true from has_iff.2 ⟨rfl, rfl⟩), if_pos rfl]; rfl
      · rw [if_neg hk]
        by_cases hb : (t.nd l).above k' = true
        · rw [if_pos hb, n0, if_neg (fun e => hk (has_iff.1 e).2.symm), if_neg]
          intro e
          obtain ⟨x1, x2⟩ := has_iff.1 e
          rcases above_iff.1 hb with h | h
          · rw [x1] at h; cases h
          · rw [x2, ls_irrefl] at h; cases h
        · rw [if_neg hb, n1]
    · have hlo : lowN t l k v = t.nd l := by unfold lowN; rw [if_neg ha]
      have hhi : highN t l k v = leafOf k v := by unfold highN; rw [if_neg ha]
      rw [hlo] at n0
      rw [hhi] at n1
      rw [hhi]
      have hab : (⟨true, (leafOf k v).fin, (leafOf k v).key, 0, c⟩ : Nd).above k' = ls k'.toList k.toList := rfl
      rw [hab]
      obtain ⟨x1, x2⟩ := hlow (by simpa using ha)
      by_cases hk : k' = k
      · subst hk
        rw [ls_irrefl, if_neg Bool.false_ne_true, n1, if_pos (show (leafOf k' v).has k' = true from has_iff.2 ⟨rfl, rfl⟩), if_pos rfl]; rfl
      · rw [if_neg hk]
        by_cases hb : ls k'.toList k.toList = true
        · rw [if_pos hb, n0]
        · rw [if_neg hb, n1, if_neg (fun e => hk (has_iff.1 e).2.symm), if_neg]
          intro e
          obtain ⟨_, y2⟩ := has_iff.1 e
          rw [y2] at x2
          exact hb x2
  · have hCT : ¬ Sides T k' (f :: D) := fun h => hC (fun g hg => by rw [← hsame g hg]; exact h g hg)
    rw [(look_plug T k' (f :: D) _).2 hCT (.leaf l)]
    have hk : k' ≠ k := fun e => hC (by rw [e]; exact hs)
    rw [if_neg hk]
    have e3 : look T k' (plug (f :: D) (.leaf l)) = look t k' (plug (f :: D) (.leaf l)) := look_nd k' (fun p hpp => hnd p (hlt p (Or.inl hpp)))
    rw [e3, hnd _ (hlt _ (Or.inr (look_leaf t k' _)))]
/-- only the count is another one -/
theorem SameC.ord {t t' : Tr} (h : SameC t t') {T : PT} (k : Ord t T) : Ord t' T := ord_nd (fun p _ => h.nd p) k
theorem SameC.cont {t t' : Tr} (h : SameC t t') (L : PT) (k : ByteArray) : cont t' L k = cont t L k := by
  unfold Go.Proofs.Ythiobdhdefimhaa.cont
  rw [look_nd (t' := t') k (fun p _ => h.nd p), h.nd]
/-- an empty tree -/
theorem new_facts (ms : MS) (hc : ms.c.length = 0) : Quiet (Tr.new ms) (.leaf 0) ∧ Ord (Tr.new ms) (.node 2 (.leaf 0) (.leaf 1)) ∧ (∀ k, cont (Tr.new ms) (.leaf 0) k = none) ∧ (Tr.new ms).ns.length = 3 ∧ (Tr.new ms).ws.length = 0 ∧ (Tr.new ms).ms.n = ms.n := by
  have hg : ms.growOk 3 = true := by unfold MS.growOk; rw [hc]; simp
  have hms : (Tr.new ms).ms = ⟨[0, 0, 0], ms.n⟩ := by
    show ms.grow 3 = _
    unfold MS.grow
    rw [if_pos hg]
    have : ms.c = [] := List.eq_nil_of_length_eq_zero hc
    rw [this]; rfl
  have n0 : (Tr.new ms).nd 0 = endN := rfl
  have n1 : (Tr.new ms).nd 1 = endN := rfl
  have n2 : (Tr.new ms).nd 2 = ⟨true, true, ⟨#[]⟩, 0, 0⟩ := by
    show (⟨true, true, ⟨#[]⟩, 0, (ms.c.length : Int)⟩ : Nd) = _
    rw [hc]; rfl
  have hl : (Tr.new ms).ns.length = 3 := rfl
  have z : ∀ x, (Tr.new ms).ms.at x = 0 := fun x => by
    rw [hms]; unfold MS.at MS.has
    split
    · rename_i h
      have h := of_decide_eq_true h
      simp only [List.length_cons, List.length_nil] at h
      have : x = 0 ∨ x = 1 ∨ x = 2 := by omega
      rcases this with rfl | rfl | rfl <;> rfl
    · rfl
  refine ⟨⟨⟨⟨by omega, by rw [n2], by omega, by omega, by rw [n2]; rfl, by rw [z]; rfl, by rw [z]; exact ⟨Int.le_refl _, by decide⟩⟩, ?_, ?_, ⟨by omega, by rw [n0]; rfl⟩, ⟨by omega, by rw [n1]; rfl⟩⟩, by simp [PT.inners], fun _ => rfl, fun o ho => (by cases ho), by rw [hms, hl]; rfl, by rw [hl], by rw [n2], by rw [n1]; rfl, by show ((Tr.new ms).nd 0).fin = true; rw [n0]; rfl, ?_⟩, ⟨fun q hq => ⟨fun hf => ?_, fun _ _ => ?_⟩, fun q hq => ⟨fun hf => ?_, fun _ e => (by cases e)⟩, trivial, trivial⟩, fun k => ?_, rfl, rfl, by rw [hms]⟩
  · show ((((2 : Nat) : Int) - 2 + (Tr.new ms).ms.at _) % 18446744073709551616).toNat = 0
    rw [z]; rfl
  · show ((((2 : Nat) : Int) - 1 + (Tr.new ms).ms.at _) % 18446744073709551616).toNat = 1
    rw [z]; rfl
  · rw [hms]
    intro x hx
    simp only [List.mem_cons, List.not_mem_nil, or_false, or_self] at hx
    subst hx
    exact ⟨Int.le_refl _, by decide⟩
  · simp only [PT.leaves, List.mem_singleton] at hq; subst hq; rw [n0] at hf; cases hf
  · rw [n2]
  · simp only [PT.leaves, List.mem_singleton] at hq; subst hq; rw [n1] at hf; cases hf
  · unfold cont
    show (if ((Tr.new ms).nd 0).has k then _ else _) = _
    rw [n0]; rfl
end Go.Proofs.Ythiobdhdefimhaa
