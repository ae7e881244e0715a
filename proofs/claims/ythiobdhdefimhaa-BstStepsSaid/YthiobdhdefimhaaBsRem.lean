/- PACKAGE bst, PLAINLY: a Delete alone, from the leaf on
PACKAGE bst, PLAINLY: a Delete alone: the words asked
PACKAGE bst, PLAINLY: what a Delete alone leaves is quiet -/
import Derived.Test.YthiobdhdefimhaaBsIns
namespace Go.Proofs.Ythiobdhdefimhaa
open Go.RowKit
set_option linter.unusedVariables false
set_option linter.unusedSimpArgs false

/-- what a Delete leaves -/
def remT (t : Tr) (f g : Fm) (k : ByteArray) : Tr :=
  let i := t.ws.length + 1
  let t5 := t.begin ⟨2, k, g.p, f.p, none, t.ms.at (t.word f.p)⟩ (t.ms.at (t.word g.p))
  let t6 := t5.cas (t.word f.p) (t.ms.at (t.word f.p)) (packW 3 i)
  let t7 := t6.ask (t.br' f).cell
  let t8 := t7.turn (t.br g) f.p f.sib.pl
  (t8.cas (t.word g.p) (packW 2 i) (packW 0 i)).done i
structure Same (t t' : Tr) (o : Wk) : Prop where
  ns : t'.ns = t.ns
  ws : t'.ws = t.ws ++ [o]
theorem Same.nd {t t' : Tr} {o : Wk} (h : Same t t' o) (p : Nat) : t'.nd p = t.nd p := by unfold Tr.nd; rw [h.ns]
theorem Same.wk {t t' : Tr} {o : Wk} (h : Same t t' o) : t'.wk (t.ws.length + 1) = o := by unfold Tr.wk; rw [h.ws]; simp [List.getD_eq_getElem?_getD]
theorem NdOk.of {t t' : Tr} {p : Nat} (h : NdOk t p) (hn : t'.ns = t.ns) : NdOk t' p := by
  obtain ⟨a, b, c, d, e⟩ := h
  have : t'.nd p = t.nd p := by unfold Tr.nd; rw [hn]
  exact ⟨by rw [hn]; exact a, b, c, by rw [this]; exact d, by rw [this]; exact e⟩
theorem rem_facts {t : Tr} {L : PT} (hq : Quiet t L) {f g : Fm} {C : List Fm} {l : Nat} (hp1 : plug (f :: g :: C) (.leaf l) = .node 2 L (.leaf 1)) (htop : (f :: g :: C).getLast? = some topF) :
    LfOk t l ∧ FmOk t f l ∧ FmOk t g f.p ∧ CxAt t C g.p ∧ f.p ≠ g.p ∧ (cxInners (f :: g :: C)).Nodup := by
  have hqc := hq.qc hp1 htop
  obtain ⟨k1, k2, k3⟩ := hqc.cx
  have hnd := (List.nodup_append.1 hqc.nodup).1
  refine ⟨hqc.x, k1, k2, k3, ?_, hnd⟩
  have : (f.p :: (f.sib.inners ++ (g.p :: (g.sib.inners ++ cxInners C)))).Nodup := hnd
  intro e
  exact (List.nodup_cons.1 this).1 (List.mem_append_right _ (by rw [e]; simp))
theorem rem_lose {t : Tr} {L : PT} (hq : Quiet t L) {f g : Fm} {C : List Fm} {l : Nat} (hp1 : plug (f :: g :: C) (.leaf l) = .node 2 L (.leaf 1)) (htop : (f :: g :: C).getLast? = some topF) {c : Cl} (hk : c.kd = .rem) (hpl2 : 2 ≤ c.path.length) (hup : c.up 0 = ⟨f.p, true, t.ms.at (t.word f.p)⟩) (hup1 : c.up 1 = ⟨g.p, true, t.ms.at (t.word g.p)⟩)
    (hov : c.over = none) (hpin : ∀ p ∈ c.path, p.node < t.ns.length) (hpl : c.path.length ≤ 65536) (hs : Sides t c.key (f :: g :: C)) (hr : Room t 8) :
    OkRun 5 t c (.lose l) (remT t f g c.key) (c.tell ⟨true, c.key, (t.nd l).val, 0⟩) := by
  obtain ⟨hx, ⟨f1, f2, f3, f4⟩, ⟨g1, g2, g3, g4⟩, hC, hfg, hnod⟩ := rem_facts hq hp1 htop
  have hcasg := begin_casB g1 hq.len
  have hcasf := begin_casB f1 hq.len
  have hsf := hs f (by simp)
  have hsg := hs g (by simp)
  obtain ⟨o, ho⟩ : ∃ o : Wk, o = ⟨2, c.key, g.p, f.p, none, t.ms.at (t.word f.p)⟩ := ⟨_, rfl⟩
  obtain ⟨i, hi⟩ : ∃ i, i = t.ws.length + 1 := ⟨_, rfl⟩
  obtain ⟨t5, ht5⟩ : ∃ t5, t5 = t.begin o (t.ms.at (t.word g.p)) := ⟨_, rfl⟩
  have hbo := begin_ok (t := t) (o := o) (s := t.ms.at (t.word g.p)) (by rw [ho]; exact hcasg)
  rw [← ht5] at hbo
  have s5 : Same t t5 o := ⟨by rw [ht5]; exact begin_ns _ _ _, by rw [hbo]; rfl⟩
  have hms5 : t5.ms = t.ms.cas (t.word g.p) (t.ms.at (t.word g.p)) (packW 2 (i : Int)) := by rw [hbo, ho, hi]; rfl
  have hl5 : t5.ms.c.length = t.ms.c.length := by rw [hms5]; exact MS.cas_len ..
  have hn5 : t5.ms.n ≤ t.ms.n + 1 := by rw [hms5]; exact (MS.cas_n _ _ _ _).2
  have hgw : t.word g.p ≠ t.word f.p := by
    have := cell_ne g1 f1 (Ne.symm hfg) (i := 0) (j := 0) (by omega) (by omega) (by omega) (by omega)
    rw [Int.add_zero, Int.add_zero] at this; exact this
  have w5 : ∀ p, t5.word p = t.word p := fun p => by unfold Tr.word; rw [s5.nd]
  have at5f : t5.ms.at (t.word f.p) = t.ms.at (t.word f.p) := by rw [hms5, MS.at_cas, if_neg (fun e => hgw e.1.symm)]
  have hcasf5 : t5.ms.casB (t.word f.p) (t.ms.at (t.word f.p)) = true := by
    refine casB_of ?_ at5f
    rw [hms5, MS.has_cas]
    have := has_cell f1 hq.len 0 (by omega) (by omega)
    rwa [Int.add_zero] at this
  obtain ⟨t6, ht6⟩ : ∃ t6, t6 = t5.cas (t.word f.p) (t.ms.at (t.word f.p)) (packW 3 (i : Int)) := ⟨_, rfl⟩
  have s6 : Same t t6 o := ⟨by rw [ht6]; exact s5.ns, by rw [ht6]; exact s5.ws⟩
  have hl6 : t6.ms.c.length = t.ms.c.length := by rw [ht6]; show (t5.ms.cas _ _ _).c.length = _; rw [MS.cas_len, hl5]
  have hn6 : t6.ms.n ≤ t.ms.n + 2 := by rw [ht6]; have := (MS.cas_n t5.ms (t.word f.p) (t.ms.at (t.word f.p)) (packW 3 (i : Int))).2; show (t5.ms.cas _ _ _).n ≤ _; omega
  have hbf : t6.beside f.p c.key = t.br' f := by
    unfold Tr.beside Tr.left Tr.right; rw [s6.nd, ← hsf]; rfl
  have hbg : ∀ t' : Tr, t'.ns = t.ns → t'.toward g.p c.key = t.br g := fun t' hn => by
    unfold Tr.toward Tr.left Tr.right
    have : t'.nd g.p = t.nd g.p := by unfold Tr.nd; rw [hn]
    rw [this, ← hsg]; rfl
  have hb2 : (t.br' f).cell = (t.nd f.p).cell + 1 ∨ (t.br' f).cell = (t.nd f.p).cell + 2 := by unfold Tr.br' Tr.left Tr.right; split; exact Or.inr rfl; exact Or.inl rfl
  have hk6 : t6.kid (t.br' f) = f.sib.pl := by
    rw [← f3]
    unfold Tr.kid
    have hne : (t.br' f).cell ≠ t.word f.p := by unfold Tr.word; rcases hb2 with e | e <;> rw [e] <;> omega
    have hne2 : (t.br' f).cell ≠ t.word g.p := by
      unfold Tr.word
      rcases hb2 with e | e <;> rw [e]
      · have := cell_ne f1 g1 hfg (i := 1) (j := 0) (by omega) (by omega) (by omega) (by omega); rwa [Int.add_zero] at this
      · have := cell_ne f1 g1 hfg (i := 2) (j := 0) (by omega) (by omega) (by omega) (by omega); rwa [Int.add_zero] at this
    rw [ht6]
    show (((t.br' f).first + (t5.ms.cas _ _ _).at _) % _).toNat = _
    rw [MS.at_cas, if_neg (fun e => hne e.1), hms5, MS.at_cas, if_neg (fun e => hne2 e.1)]
  obtain ⟨t7, ht7⟩ : ∃ t7, t7 = t6.ask (t.br' f).cell := ⟨_, rfl⟩
  have s7 : Same t t7 o := ⟨by rw [ht7]; exact s6.ns, by rw [ht7]; exact s6.ws⟩
  have hl7 : t7.ms.c.length = t.ms.c.length := by rw [ht7, (SameC.ask t6 _).c, hl6]
  have hn7 : t7.ms.n ≤ t.ms.n + 3 := by rw [ht7]; have := (ask_n t6 (t.br' f).cell).2; omega
  obtain ⟨t8, ht8⟩ : ∃ t8, t8 = t7.turn (t.br g) f.p f.sib.pl := ⟨_, rfl⟩
  have s8 : Same t t8 o := ⟨by rw [ht8]; exact s7.ns, by rw [ht8]; exact s7.ws⟩
  have hl8 : t8.ms.c.length = t.ms.c.length := by rw [ht8]; show (t7.ms.cas _ _ _).c.length = _; rw [MS.cas_len, hl7]
  have hn8 : t8.ms.n ≤ t.ms.n + 4 := by rw [ht8]; show (t7.ms.cas _ _ _).n ≤ _; have := (MS.cas_n t7.ms (t.br g).cell (u64 ((f.p : Int) - (t.br g).first)) (u64 ((f.sib.pl : Int) - (t.br g).first))).2; omega
  have hsiblt := kid_lt f4
  have i1 : 1 ≤ i := by omega
  have il : ∀ t', Same t t' o → i ≤ t'.ws.length := fun t' h => by rw [h.ws, hi]; simp
  have wkk : ∀ t', Same t t' o → t'.wk i = o := fun t' h => by rw [hi]; exact h.wk
  have e1 : stepP t c (.lose l) = (t5, c, some (Stp.mark i (.told l) .fail)) := by
    show (t.begin ⟨2, c.key, (c.up 1).node, (c.up 0).node, none, (c.up 0).seen⟩ (c.up 1).seen, if t.ms.casB (t.word (c.up 1).node) (c.up 1).seen = true then _ else _) = _
    rw [hup, hup1]
    dsimp only
    rw [if_pos hcasg, ht5, ho, hi]
  have e2 : stepP t5 c (Stp.mark i (.told l) .fail) = (t6, c, some (Stp.drop i (.told l))) := by
    show (t5.cas (t5.word (t5.wk i).old) (t5.wk i).seen (packW 3 (i : Int)), c, some (if (t5.ms.casB (t5.word (t5.wk i).old) (t5.wk i).seen || t5.ms.at (t5.word (t5.wk i).old) == packW 3 (i : Int)) = true then _ else _)) = _
    rw [wkk t5 s5, ho]
    dsimp only
    rw [w5, hcasf5, ← ht6]
    rfl
  have e3 : stepP t6 c (Stp.drop i (.told l)) = (t7, c, some (Stp.take i f.sib.pl (.told l))) := by
    show (t6.ask (t6.beside (t6.wk i).old (t6.wk i).key).cell, c, some (Stp.take i (t6.kid (t6.beside (t6.wk i).old (t6.wk i).key)) (.told l))) = _
    rw [wkk t6 s6, ho]
    dsimp only
    rw [hbf, hk6, ← ht7]
  have e4 : stepP t7 c (Stp.take i f.sib.pl (.told l)) = (t8, c, some (Stp.fin i (.told l))) := by
    show (t7.turn (t7.toward (t7.wk i).at_ (t7.wk i).key) (t7.wk i).old f.sib.pl, c, _) = _
    rw [wkk t7 s7, ho]
    dsimp only
    rw [hbg t7 s7.ns, ← ht8]
  have e5 : stepP t8 c (Stp.fin i (.told l)) = (remT t f g c.key, c.tell ⟨true, c.key, (t.nd l).val, 0⟩, none) := by
    show ((t8.cas (t8.word (t8.wk i).at_) (packW (t8.wk i).state (i : Int)) (packW 0 (i : Int))).done i, c.run t8 (.told l)) = _
    rw [wkk t8 s8]
    have hrun : c.run t8 (.told l) = (c.tell ⟨true, c.key, (t.nd l).val, 0⟩, none) := by unfold Cl.run; dsimp only; rw [if_neg (by rw [hk]; decide), s8.nd]
    have hw : t8.word g.p = t.word g.p := by unfold Tr.word; rw [s8.nd]
    rw [hrun, ho]
    dsimp only
    rw [hw]
    have e9 : remT t f g c.key = (t8.cas (t.word g.p) (packW 2 (i : Int)) (packW 0 (i : Int))).done i := by
      rw [ht8, ht7, ht6, ht5, ho, hi]; rfl
    rw [e9]
  have hno := g1.nd hr.ns
  have hnf := f1.nd hr.ns
  have hsm : ∀ t' : Tr, Same t t' o → t'.ms.c.length = t.ms.c.length → t'.ms.n ≤ t.ms.n + 4 → Small t' c := fun t' h h1 h2 => ⟨by rw [h1]; exact hr.cells, by have := hr.asked; omega, by rw [h.ws]; have := hr.ws; simp; omega, by omega⟩
  have hwko : ∀ t', Same t t' o → WkOk t' i := fun t' h => ⟨i1, il t' h, by rw [wkk t' h, ho]; exact hno.of h.ns, by rw [wkk t' h, ho, h.ns]; exact f1.lt⟩
  refine okRun_step (n := 4) ⟨hk, hx.1, hpl2, by omega, by rw [hup1]; exact hno, by rw [hup]; exact f1.lt, hr.cells, by have := hr.asked; omega, (fun j hj => by rw [hq.live] at hj; cases hj), by have := hr.ws; omega, isu_at hq _, InOk.hlp hq.live, hpin, hov⟩ ⟨hr.cells, by have := hr.asked; omega, by have := hr.ws; omega, by omega⟩ ?_
  rw [e1]
  refine okRun_step (n := 3) ⟨i1, il t5 s5, by rw [wkk t5 s5, ho]; exact hnf.of s5.ns⟩ (hsm t5 s5 hl5 (by omega)) ?_
  rw [e2]
  refine okRun_step (n := 2) ⟨i1, il t6 s6, by rw [wkk t6 s6, ho]; exact hnf.of s6.ns, by rw [wkk t6 s6, ho]; dsimp only; rw [hbf, hk6, s6.ns]; exact hsiblt⟩ (hsm t6 s6 hl6 (by omega)) ?_
  rw [e3]
  refine okRun_step (n := 1) ⟨hwko t7 s7, by rw [s7.ns]; exact hsiblt⟩ (hsm t7 s7 hl7 (by omega)) ?_
  rw [e4]
  refine okRun_step (n := 0) ⟨hwko t8 s8, Or.inr ⟨hk, by rw [s8.ns]; exact hx.1⟩⟩ (hsm t8 s8 hl8 (by omega)) ?_
  rw [e5]
  exact ⟨rfl, rfl⟩
end Go.Proofs.Ythiobdhdefimhaa
namespace Go.Proofs.Ythiobdhdefimhaa
open Go.RowKit
set_option linter.unusedVariables false
set_option linter.unusedSimpArgs false

theorem pass_up (c : Cl) (p : Nat) : (c.pass p).up 0 = ⟨p, false, 0⟩ := by
  unfold Cl.up Cl.pass; simp [List.getD_eq_getElem?_getD]
theorem pass_saw_up1 {c : Cl} (h : c.path ≠ []) (p : Nat) (w : Int) : ((c.pass p).saw w).up 1 = c.up 0 := by
  have := List.length_pos_iff.2 h
  unfold Cl.saw Cl.up Cl.pass
  simp only [List.length_set, List.length_append, List.length_singleton, List.getD_eq_getElem?_getD]
  rw [List.getElem?_set_ne (by omega), List.getElem?_append_left (by omega)]
  congr 2
theorem rem_steps {t : Tr} {L : PT} (hq : Quiet t L) {f g : Fm} {C : List Fm} {l : Nat} (hp1 : plug (f :: g :: C) (.leaf l) = .node 2 L (.leaf 1)) (htop : (f :: g :: C).getLast? = some topF) {c : Cl} (hk : c.kd = .rem) (hp : c.path = pathOf (g :: C)) (hov : c.over = none)
    (hs : Sides t c.key (f :: g :: C)) (hh : (t.nd l).has c.key = true) (hr : Room t 20) :
    ∃ t5 cz, SameC t t5 ∧ t5.ms.n ≤ t.ms.n + 4 ∧ cz.ans = ⟨true, c.key, (t.nd l).val, 0⟩ ∧ OkRun 9 t c .look (remT t5 f g c.key) cz := by
  obtain ⟨hx, ⟨f1, f2, f3, f4⟩, ⟨g1, g2, g3, g4⟩, hC, hfg, hnod⟩ := rem_facts hq hp1 htop
  have hsf := hs f (by simp)
  have hsg := hs g (by simp)
  have hup := up_pathOf hp
  have hne : c.path ≠ [] := by rw [hp]; simp [pathOf]
  have hcin : ∀ x ∈ g :: C, InOk t x.p := (show CxAt t (g :: C) f.p from ⟨⟨g1, g2, g3, g4⟩, hC⟩).inOk
  have hplen : c.path.length + 1 ≤ 65536 + 1 := by
    rw [hp, pathOf_len]
    have h1 := cx_len (C := f :: g :: C)
    have h3 : (cxInners (f :: g :: C)).length ≤ t.ns.length := nodup_len hnod (fun x hx => by
      have h4 := at_inners hq.at_
      rw [← hp1] at h4
      exact (h4 x ((plug_inners (f :: g :: C) (.leaf l)).mem_iff.2 (List.mem_append_left _ hx))).lt)
    have := hr.ns
    simp only [List.length_cons] at h1 ⊢
    omega
  have hplen2 : c.path.length + 1 ≤ 65536 := by
    rw [hp, pathOf_len]
    have h1 := cx_len (C := f :: g :: C)
    have h3 : (cxInners (f :: g :: C)).length ≤ t.ns.length := nodup_len hnod (fun x hx => by
      have h4 := at_inners hq.at_
      rw [← hp1] at h4
      exact (h4 x ((plug_inners (f :: g :: C) (.leaf l)).mem_iff.2 (List.mem_append_left _ hx))).lt)
    have := hr.ns
    simp only [List.length_cons] at h1 ⊢
    omega
  -- look at g
  obtain ⟨Wg, hWg⟩ : ∃ W, W = t.ms.at (t.word g.p) := ⟨_, rfl⟩
  obtain ⟨W, hW⟩ : ∃ W, W = t.ms.at (t.word f.p) := ⟨_, rfl⟩
  have hcg : Wg % 4 = 0 := by rw [hWg]; exact g1.clean
  have hcf : W % 4 = 0 := by rw [hW]; exact f1.clean
  obtain ⟨t2, ht2⟩ : ∃ t2, t2 = t.ask (t.word g.p) := ⟨_, rfl⟩
  have s2 : SameC t t2 := by rw [ht2]; exact SameC.ask _ _
  have n2 : t2.ms.n ≤ t.ms.n + 1 := by rw [ht2]; exact (ask_n _ _).2
  obtain ⟨c2, hc2⟩ : ∃ c2, c2 = c.saw Wg := ⟨_, rfl⟩
  have e1 : stepP t c .look = (t2, c2, some .down) := by
    show (t.ask (t.word (c.up 0).node), c.met t (t.ms.at (t.word (c.up 0).node))) = _
    rw [hup]
    show (t.ask (t.word g.p), c.met t (t.ms.at (t.word g.p))) = _
    rw [← ht2, ← hWg]
    unfold Cl.met
    rw [if_pos hcg, hc2]
  have up2 : c2.up 0 = ⟨g.p, true, Wg⟩ := by rw [hc2, saw_up hne, hup]
  have k2 : c2.kd = .rem ∧ c2.key = c.key ∧ c2.over = none ∧ c2.path.length = c.path.length := by rw [hc2]; exact ⟨hk, rfl, hov, by simp [Cl.saw]⟩
  have ne2 : c2.path ≠ [] := by
    intro e
    have h9 := k2.2.2.2
    rw [e] at h9
    exact hne (List.eq_nil_of_length_eq_zero h9.symm)
  have in2 : ∀ p ∈ c2.path, p.node < t.ns.length := by
    intro p hp9
    rw [hc2] at hp9
    unfold Cl.saw at hp9
    dsimp only at hp9
    rcases List.mem_or_eq_of_mem_set hp9 with h1 | h1
    · rw [hp] at h1
      obtain ⟨x, hx9, rfl⟩ := pathOf_in h1
      exact (hcin x hx9).lt
    · rw [h1]; dsimp only; rw [hup]; exact g1.lt
  -- down to f
  have hbg : t2.toward g.p c.key = t.br g := by unfold Tr.toward; rw [s2.nd, s2.left, s2.right]; exact (br_toward hsg).1
  obtain ⟨t3, ht3⟩ : ∃ t3, t3 = t2.ask (t.br g).cell := ⟨_, rfl⟩
  have s3 : SameC t t3 := s2.trans (by rw [ht3]; exact SameC.ask _ _)
  have n3 : t3.ms.n ≤ t.ms.n + 2 := by have := (ask_n t2 (t.br g).cell).2; rw [ht3]; omega
  have hkid2 : t2.kid (t.br g) = f.p := by rw [s2.kid]; exact g2
  have hin2 : (t2.nd f.p).inner = true := by rw [s2.nd]; exact f1.inner
  obtain ⟨c3, hc3⟩ : ∃ c3, c3 = c2.pass f.p := ⟨_, rfl⟩
  have e2 : stepP t2 c2 .down = (t3, c3, some .look) := by
    show (t2.ask (t2.toward (c2.up 0).node c2.key).cell, if (t2.nd (t2.kid (t2.toward (c2.up 0).node c2.key))).inner then (c2.pass (t2.kid (t2.toward (c2.up 0).node c2.key)), some Stp.look) else c2.leaf t2 (t2.kid (t2.toward (c2.up 0).node c2.key)) .way) = _
    rw [up2, k2.2.1]
    dsimp only
    rw [hbg, hkid2, hin2, if_pos rfl, ← ht3, hc3]
  have up3 : c3.up 0 = ⟨f.p, false, 0⟩ := by rw [hc3]; exact pass_up _ _
  have k3 : c3.kd = .rem ∧ c3.key = c.key ∧ c3.over = none ∧ c3.path.length = c.path.length + 1 := by rw [hc3]; exact ⟨k2.1, k2.2.1, k2.2.2.1, by simp [Cl.pass, k2.2.2.2]⟩
  have ne3 : c3.path ≠ [] := by intro e; have := k3.2.2.2; rw [e] at this; simp at this
  -- look at f
  obtain ⟨t4, ht4⟩ : ∃ t4, t4 = t3.ask (t.word f.p) := ⟨_, rfl⟩
  have s4 : SameC t t4 := s3.trans (by rw [ht4]; exact SameC.ask _ _)
  have n4 : t4.ms.n ≤ t.ms.n + 3 := by have := (ask_n t3 (t.word f.p)).2; rw [ht4]; omega
  obtain ⟨c4, hc4⟩ : ∃ c4, c4 = c3.saw W := ⟨_, rfl⟩
  have e3 : stepP t3 c3 .look = (t4, c4, some .down) := by
    show (t3.ask (t3.word (c3.up 0).node), c3.met t3 (t3.ms.at (t3.word (c3.up 0).node))) = _
    rw [up3]
    dsimp only
    have hwf : t3.word f.p = t.word f.p := by unfold Tr.word; rw [s3.nd]
    rw [hwf, ← ht4, s3.atc, ← hW]
    unfold Cl.met
    rw [if_pos hcf, hc4]
  have up4 : c4.up 0 = ⟨f.p, true, W⟩ := by rw [hc4, saw_up ne3, up3]
  have up41 : c4.up 1 = ⟨g.p, true, Wg⟩ := by rw [hc4, hc3, pass_saw_up1 ne2, up2]
  have k4 : c4.kd = .rem ∧ c4.key = c.key ∧ c4.over = none ∧ c4.path.length = c.path.length + 1 := by rw [hc4]; exact ⟨k3.1, k3.2.1, k3.2.2.1, by simp [Cl.saw, k3.2.2.2]⟩
  have ne4 : c4.path ≠ [] := by intro e; have := k4.2.2.2; rw [e] at this; simp at this
  have in4 : ∀ p ∈ c4.path, p.node < t.ns.length := by
    intro p hp9
    rw [hc4] at hp9
    unfold Cl.saw at hp9
    dsimp only at hp9
    rcases List.mem_or_eq_of_mem_set hp9 with h1 | h1
    · rw [hc3] at h1
      unfold Cl.pass at h1
      dsimp only at h1
      rcases List.mem_append.1 h1 with h1 | h1
      · exact in2 p h1
      · simp only [List.mem_singleton] at h1; rw [h1]; exact f1.lt
    · rw [h1]; dsimp only; rw [up3]; exact f1.lt
  -- down to l
  have hbf : t4.toward f.p c.key = t.br f := by unfold Tr.toward; rw [s4.nd, s4.left, s4.right]; exact (br_toward hsf).1
  obtain ⟨t5, ht5⟩ : ∃ t5, t5 = t4.ask (t.br f).cell := ⟨_, rfl⟩
  have s5 : SameC t t5 := s4.trans (by rw [ht5]; exact SameC.ask _ _)
  have n5 : t5.ms.n ≤ t.ms.n + 4 := by have := (ask_n t4 (t.br f).cell).2; rw [ht5]; omega
  have hkid4 : t4.kid (t.br f) = l := by rw [s4.kid]; exact f2
  have hin4 : (t4.nd l).inner = false := by rw [s4.nd]; exact hx.2
  have e4 : stepP t4 c4 .down = (t5, c4, some (.lose l)) := by
    show (t4.ask (t4.toward (c4.up 0).node c4.key).cell, if (t4.nd (t4.kid (t4.toward (c4.up 0).node c4.key))).inner then (c4.pass (t4.kid (t4.toward (c4.up 0).node c4.key)), some Stp.look) else c4.leaf t4 (t4.kid (t4.toward (c4.up 0).node c4.key)) .way) = _
    rw [up4, k4.2.1]
    dsimp only
    rw [hbf, hkid4, hin4, if_neg (by simp), ← ht5]
    unfold Cl.leaf
    rw [k4.1]
    dsimp only
    rw [s4.nd, k4.2.1, hh, if_pos rfl, up41, if_pos rfl]
  have l2 := k2.2.2.2
  have l3 := k3.2.2.2
  have l4 := k4.2.2.2
  refine ⟨t5, c4.tell ⟨true, c.key, (t.nd l).val, 0⟩, s5, n5, rfl, okRun_step (n := 8) ⟨Or.inr hk, hne, by rw [hup]; exact g1.nd hr.ns, by rw [hup]; exact isu_at hq _, InOk.hlp hq.live⟩ (hr.small (by omega)) ?_⟩
  rw [e1]
  refine okRun_step (n := 7) ⟨Or.inr k2.1, ne2, by rw [up2]; exact (s2.inOk g1).nd (by rw [s2.ns]; exact hr.ns), ?_⟩ ((Room.same (k := 19) (j := 1) hr s2 (by omega)).small (by show c2.path.length ≤ _; omega)) ?_
  · rw [up2, k2.2.1]
    dsimp only
    rw [hbg, hkid2]
    exact ⟨by rw [s2.ns]; exact f1.lt, (by show c2.path.length ≤ _; omega), fun _ => (s2.inOk f1).nd (by rw [s2.ns]; exact hr.ns), (fun e => by rw [hin2] at e; cases e)⟩
  rw [e2]
  refine okRun_step (n := 6) ⟨Or.inr k3.1, ne3, by rw [up3]; exact (s3.inOk f1).nd (by rw [s3.ns]; exact hr.ns), isu_at (s3.quiet hq) _, InOk.hlp (s3.quiet hq).live⟩ ((Room.same (k := 18) (j := 2) hr s3 (by omega)).small (by show c3.path.length ≤ _; omega)) ?_
  rw [e3]
  refine okRun_step (n := 5) ⟨Or.inr k4.1, ne4, by rw [up4]; exact (s4.inOk f1).nd (by rw [s4.ns]; exact hr.ns), ?_⟩ ((Room.same (k := 17) (j := 3) hr s4 (by omega)).small (by show c4.path.length ≤ _; omega)) ?_
  · rw [up4, k4.2.1]
    dsimp only
    rw [hbf, hkid4]
    exact ⟨by rw [s4.ns]; exact hx.1, (by show c4.path.length ≤ _; omega), (fun e => by rw [hin4] at e; cases e), fun _ => ⟨by rw [s4.ns]; exact hx.1, (by show c4.path.length ≤ _; omega), (fun e => by rw [k4.1] at e; cases e), fun _ _ => (by show 2 ≤ c4.path.length; have := List.length_pos_iff.2 hne; omega), (fun e => by rw [k4.1] at e; cases e)⟩⟩
  rw [e4]
  have hq5 := s5.quiet hq
  have w5f : t5.ms.at (t5.word f.p) = W := by rw [hW]; unfold Tr.word; rw [s5.nd, s5.atc]
  have w5g : t5.ms.at (t5.word g.p) = Wg := by rw [hWg]; unfold Tr.word; rw [s5.nd, s5.atc]
  have hs5 : Sides t5 c4.key (f :: g :: C) := fun x hx9 => by rw [s5.nd, k4.2.1]; exact hs x hx9
  have hr5 : Room t5 8 := Room.same (k := 8) (j := 12) hr s5 (by omega)
  have := rem_lose hq5 hp1 htop k4.1 (by have := List.length_pos_iff.2 hne; omega) (by rw [up4, w5f]) (by rw [up41, w5g]) k4.2.2.1 (fun p hp9 => by rw [s5.ns]; exact in4 p hp9) (by omega) hs5 hr5
  rw [k4.2.1, s5.nd] at this
  exact this
end Go.Proofs.Ythiobdhdefimhaa
namespace Go.Proofs.Ythiobdhdefimhaa
open Go.RowKit
set_option linter.unusedVariables false
set_option linter.unusedSimpArgs false

theorem rem_cells {t : Tr} {L : PT} (hq : Quiet t L) {f g : Fm} {C : List Fm} {l : Nat} (hp1 : plug (f :: g :: C) (.leaf l) = .node 2 L (.leaf 1)) (htop : (f :: g :: C).getLast? = some topF) (k : ByteArray) :
    (∀ x, (remT t f g k).ms.at x = if x = (t.nd g.p).cell then packW 0 ((t.ws.length + 1 : Nat) : Int) else if x = (t.br g).cell then u64 ((f.sib.pl : Int) - (t.br g).first) else if x = (t.nd f.p).cell then packW 3 ((t.ws.length + 1 : Nat) : Int) else t.ms.at x) ∧
    (remT t f g k).ns = t.ns ∧ (remT t f g k).ms.c.length = t.ms.c.length ∧ (∀ x ∈ (remT t f g k).ms.c, IsU x) ∧ (remT t f g k).ms.n ≤ t.ms.n + 5 ∧
    (remT t f g k).ws = t.ws ++ [⟨2, k, g.p, f.p, none, t.ms.at (t.word f.p)⟩] ∧ ∀ i, (remT t f g k).live i = false := by
  obtain ⟨hx, ⟨f1, f2, f3, f4⟩, ⟨g1, g2, g3, g4⟩, hC, hfg, hnod⟩ := rem_facts hq hp1 htop
  have hcasg := begin_casB g1 hq.len
  obtain ⟨o, ho⟩ : ∃ o : Wk, o = ⟨2, k, g.p, f.p, none, t.ms.at (t.word f.p)⟩ := ⟨_, rfl⟩
  obtain ⟨i, hi⟩ : ∃ i, i = t.ws.length + 1 := ⟨_, rfl⟩
  obtain ⟨Wg, hWg⟩ : ∃ W, W = t.ms.at (t.word g.p) := ⟨_, rfl⟩
  obtain ⟨Wf, hWf⟩ : ∃ W, W = t.ms.at (t.word f.p) := ⟨_, rfl⟩
  obtain ⟨wg, hwg⟩ : ∃ w, w = (t.nd g.p).cell := ⟨_, rfl⟩
  obtain ⟨wf, hwf⟩ : ∃ w, w = (t.nd f.p).cell := ⟨_, rfl⟩
  have hg' : t.word g.p = wg := by rw [hwg]; rfl
  have hf' : t.word f.p = wf := by rw [hwf]; rfl
  have hbo := begin_ok (t := t) (o := o) (s := Wg) (by rw [ho, hWg]; exact hcasg)
  have hasg : ∀ j : Int, 0 ≤ j → j < 3 → t.ms.has (wg + j) = true := fun j j0 j1 => by rw [hwg]; exact has_cell g1 hq.len j j0 j1
  have hasf : ∀ j : Int, 0 ≤ j → j < 3 → t.ms.has (wf + j) = true := fun j j0 j1 => by rw [hwf]; exact has_cell f1 hq.len j j0 j1
  have hg0 : t.ms.has wg = true := by have := hasg 0 (by omega) (by omega); rwa [Int.add_zero] at this
  have hf0 : t.ms.has wf = true := by have := hasf 0 (by omega) (by omega); rwa [Int.add_zero] at this
  have ne : ∀ a b : Int, 0 ≤ a → a < 3 → 0 ≤ b → b < 3 → wg + a ≠ wf + b := fun a b a0 a1 b0 b1 => by rw [hwg, hwf]; exact cell_ne g1 f1 (Ne.symm hfg) a0 a1 b0 b1
  have hgf : wg ≠ wf := by have := ne 0 0 (by omega) (by omega) (by omega) (by omega); rwa [Int.add_zero, Int.add_zero] at this
  have hbc : (t.br g).cell = wg + (if g.lt then 1 else 2) := by rw [br_cell, hwg]
  obtain ⟨d, hd⟩ : ∃ d : Int, d = (if g.lt then 1 else 2) := ⟨_, rfl⟩
  rw [← hd] at hbc
  have d0 : 1 ≤ d ∧ d ≤ 2 := by rw [hd]; split <;> omega
  have hbg : (t.br g).cell ≠ wg := by rw [hbc]; omega
  have hbf : (t.br g).cell ≠ wf := by rw [hbc]; have := ne d 0 (by omega) (by omega) (by omega) (by omega); rwa [Int.add_zero] at this
  have hbh : t.ms.has (t.br g).cell = true := by rw [hbc]; exact hasg d (by omega) (by omega)
  -- the cells, one behind the other
  obtain ⟨m1, hm1⟩ : ∃ m, m = t.ms.cas wg Wg (packW 2 (i : Int)) := ⟨_, rfl⟩
  have c1 : t.ms.casB wg Wg = true := casB_of hg0 (by rw [hWg, hg'])
  have at1 : ∀ x, m1.at x = if x = wg then packW 2 (i : Int) else t.ms.at x := fun x => by
    rw [hm1, MS.at_cas]
    by_cases e : x = wg
    · rw [if_pos ⟨e, c1⟩, if_pos e]
    · rw [if_neg (fun h => e h.1), if_neg e]
  obtain ⟨m2, hm2⟩ : ∃ m, m = m1.cas wf Wf (packW 3 (i : Int)) := ⟨_, rfl⟩
  have c2 : m1.casB wf Wf = true := casB_of (by rw [hm1, MS.has_cas]; exact hf0) (by rw [at1, if_neg hgf.symm, hWf, hf'])
  have at2 : ∀ x, m2.at x = if x = wf then packW 3 (i : Int) else m1.at x := fun x => by
    rw [hm2, MS.at_cas]
    by_cases e : x = wf
    · rw [if_pos ⟨e, c2⟩, if_pos e]
    · rw [if_neg (fun h => e h.1), if_neg e]
  obtain ⟨m3, hm3⟩ : ∃ m, m = m2.ask (t.br' f).cell := ⟨_, rfl⟩
  have at3 : ∀ x, m3.at x = m2.at x := fun x => by rw [hm3]; exact MS.at_ask _ _ _
  have len3 : m3.c.length = t.ms.c.length := by rw [hm3, MS.ask_len, hm2, MS.cas_len, hm1, MS.cas_len]
  have has3 : ∀ x, m3.has x = t.ms.has x := fun x => by unfold MS.has; rw [len3]
  have at3b : m3.at (t.br g).cell = t.ms.at (t.br g).cell := by rw [at3, at2, if_neg hbf, at1, if_neg hbg]
  obtain ⟨m4, hm4⟩ : ∃ m, m = m3.cas (t.br g).cell (u64 ((f.p : Int) - (t.br g).first)) (u64 ((f.sib.pl : Int) - (t.br g).first)) := ⟨_, rfl⟩
  have c4 : m3.casB (t.br g).cell (u64 ((f.p : Int) - (t.br g).first)) = true := by
    have hk : ({ t with ms := m3 } : Tr).kid (t.br g) = f.p := by
      unfold Tr.kid; dsimp only; rw [at3b]; exact g2
    exact kid_cas hk (by dsimp only; rw [at3b]; exact isu_at hq _) (by dsimp only; rw [has3]; exact hbh)
  have at4 : ∀ x, m4.at x = if x = (t.br g).cell then u64 ((f.sib.pl : Int) - (t.br g).first) else m3.at x := fun x => by
    rw [hm4, MS.at_cas]
    by_cases e : x = (t.br g).cell
    · rw [if_pos ⟨e, c4⟩, if_pos e]
    · rw [if_neg (fun h => e h.1), if_neg e]
  have c5 : m4.casB wg (packW 2 (i : Int)) = true := casB_of (by rw [hm4, MS.has_cas, has3]; exact hg0) (by rw [at4, if_neg hbg.symm, at3, at2, if_neg hgf, at1, if_pos rfl])
  have hbns : (t.begin o Wg).ns = t.ns := begin_ns _ _ _
  have hms : (remT t f g k).ms = m4.cas wg (packW 2 (i : Int)) (packW 0 (i : Int)) := by
    have e1 : (t.begin o Wg).ms = m1 := by rw [hbo, ho, hm1, hi]; show t.ms.cas (t.word g.p) Wg _ = _; rw [hg']; rfl
    have e2 : (remT t f g k).ms = ((((t.begin o Wg).ms.cas (t.word f.p) Wf (packW 3 (i : Int))).ask (t.br' f).cell).cas (t.br g).cell (u64 ((f.p : Int) - (t.br g).first)) (u64 ((f.sib.pl : Int) - (t.br g).first))).cas (t.word g.p) (packW 2 (i : Int)) (packW 0 (i : Int)) := by
      rw [hWg, hWf, ho, hi]; rfl
    rw [e2, e1, hf', hg', ← hm2, ← hm3, ← hm4]
  refine ⟨fun x => ?_, ?_, ?_, ?_, ?_, ?_, fun j => ?_⟩
  · rw [hms, MS.at_cas, ← hwg, ← hwf, ← hi]
    by_cases e : x = wg
    · rw [if_pos ⟨e, c5⟩, if_pos e]
    · rw [if_neg (fun h => e h.1), if_neg e, at4]
      by_cases e2 : x = (t.br g).cell
      · rw [if_pos e2, if_pos e2]
      · rw [if_neg e2, if_neg e2, at3, at2, at1, if_neg e]
  · have : (remT t f g k).ns = (t.begin o Wg).ns := by rw [hWg, ho]; rfl
    rw [this, hbns]
  · rw [hms, MS.cas_len, hm4, MS.cas_len, len3]
  · rw [hms]
    refine MS.cas_mem (isU_packW _ _) ?_
    rw [hm4]
    refine MS.cas_mem (isU_u64 _) ?_
    have : ∀ x ∈ m2.c, IsU x := by
      rw [hm2]
      refine MS.cas_mem (isU_packW _ _) ?_
      rw [hm1]
      exact MS.cas_mem (isU_packW _ _) hq.isu
    rw [hm3]
    unfold MS.ask; split <;> exact this
  · rw [hms]
    have h5 := (MS.cas_n m4 wg (packW 2 (i : Int)) (packW 0 (i : Int))).2
    have h4 := (MS.cas_n m3 (t.br g).cell (u64 ((f.p : Int) - (t.br g).first)) (u64 ((f.sib.pl : Int) - (t.br g).first))).2
    rw [← hm4] at h4
    have h3 : m3.n ≤ m2.n + 1 := by rw [hm3]; unfold MS.ask; split; exact Nat.le_refl _; exact Nat.le_succ _
    have h2 := (MS.cas_n m1 wf Wf (packW 3 (i : Int))).2
    rw [← hm2] at h2
    have h1 := (MS.cas_n t.ms wg Wg (packW 2 (i : Int))).2
    rw [← hm1] at h1
    omega
  · have : (remT t f g k).ws = (t.begin o Wg).ws := by rw [hWg, ho]; rfl
    rw [this, hbo, ← ho]; rfl
  · have e1 : (remT t f g k).live = fun j => if j = i then false else (t.begin o Wg).live j := by rw [hWg, ho, hi]; rfl
    rw [e1]
    dsimp only
    by_cases e : j = i
    · rw [if_pos e]
    · rw [if_neg e, hbo]
      show (if j = t.ws.length + 1 then true else t.live j) = false
      rw [if_neg (by rw [← hi]; exact e)]; exact hq.live j
theorem rem_quiet {t : Tr} {L : PT} (hq : Quiet t L) {f g : Fm} {C : List Fm} {l : Nat} (hp1 : plug (f :: g :: C) (.leaf l) = .node 2 L (.leaf 1)) (htop : (f :: g :: C).getLast? = some topF) (k : ByteArray) (hh : (t.nd l).has k = true) :
    ∃ L', Quiet (remT t f g k) L' ∧ plug (g :: C) f.sib = .node 2 L' (.leaf 1) ∧ More [f.p, g.p] t (remT t f g k) := by
  obtain ⟨cat, cns, clen, cisu, cn, cws, clive⟩ := rem_cells hq hp1 htop k
  obtain ⟨hx, ⟨f1, f2, f3, f4⟩, ⟨g1, g2, g3, g4⟩, hC, hfg, hnod⟩ := rem_facts hq hp1 htop
  have hqc := hq.qc hp1 htop
  obtain ⟨t6, ht6⟩ : ∃ t6, t6 = remT t f g k := ⟨_, rfl⟩
  rw [← ht6] at cat cns clen cisu cn cws clive ⊢
  have hnd : ∀ p, t6.nd p = t.nd p := fun p => by unfold Tr.nd; rw [cns]
  have hm : More [f.p, g.p] t t6 := more_of ⟨[], by rw [cns]; simp⟩ (fun p hp hpf i i0 i1 => by
    simp only [List.mem_cons, List.not_mem_nil, or_false, not_or] at hpf
    rw [cat]
    have h1 := cell_ne hp g1 hpf.2 i0 i1 (j := 0) (by omega) (by omega)
    have h2 := cell_ne hp f1 hpf.1 i0 i1 (j := 0) (by omega) (by omega)
    rw [Int.add_zero] at h1 h2
    rw [if_neg h1, if_neg, if_neg h2]
    rcases br_in (t := t) g with e | e <;> rw [e]
    · exact cell_ne hp g1 hpf.2 i0 i1 (by omega) (by omega)
    · exact cell_ne hp g1 hpf.2 i0 i1 (by omega) (by omega))
  have hn1 : (f.p :: (f.sib.inners ++ (g.p :: (g.sib.inners ++ cxInners C)))).Nodup := hnod
  have hn2 := List.nodup_cons.1 hn1
  have hn3 := List.nodup_append.1 hn2.2
  have hn4 := List.nodup_cons.1 hn3.2.1
  have hsibf : ∀ p ∈ f.sib.inners, p ∉ [f.p, g.p] := fun p hp hpf => by
    simp only [List.mem_cons, List.not_mem_nil, or_false] at hpf
    rcases hpf with rfl | rfl
    · exact hn2.1 (List.mem_append_left _ hp)
    · exact hn3.2.2 _ hp _ (by simp) rfl
  have hsibg : ∀ p ∈ g.sib.inners ++ cxInners C, p ∉ [f.p, g.p] := fun p hp hpf => by
    simp only [List.mem_cons, List.not_mem_nil, or_false] at hpf
    rcases hpf with rfl | rfl
    · exact hn2.1 (List.mem_append_right _ (List.mem_cons_of_mem _ hp))
    · exact hn4.1 hp
  have hw6 : t6.ms.at (t6.nd g.p).cell = packW 0 ((t.ws.length + 1 : Nat) : Int) := by rw [hnd, cat, if_pos rfl]
  have hbr6 : t6.br g = t.br g ∧ t6.br' g = t.br' g := by
    unfold Tr.br Tr.br' Tr.left Tr.right; rw [hnd]; exact ⟨rfl, rfl⟩
  have hsiblt := kid_lt f4
  have hcx : CxAt t6 (g :: C) f.sib.pl := by
    refine ⟨⟨⟨by rw [cns]; exact g1.lt, by rw [hnd]; exact g1.inner, g1.two, g1.mod, by rw [hnd]; exact g1.cell, by rw [hw6, packW_mod]; rfl, by rw [hw6]; exact isU_packW _ _⟩, ?_, ?_, hm.at_ g4 (fun p hp => hsibg p (List.mem_append_left _ hp))⟩, hm.cx hC (fun p hp => hsibg p (List.mem_append_right _ hp))⟩
    · rw [hbr6.1]
      have hl5 : t.ns.length < 18446744073709551616 ∨ True := Or.inr trivial
      refine kid_new ?_ ?_
      · have h1 : t.kid (t.br' f) < 18446744073709551616 := by unfold Tr.kid; omega
        rw [f3] at h1; exact h1
      · rw [cat, if_neg (by rcases br_in (t := t) g with e | e <;> rw [e] <;> omega), if_pos rfl]
    · rw [hbr6.2, ← g3]
      unfold Tr.kid
      have hbo : (t.br' g).cell ≠ (t.nd g.p).cell ∧ (t.br' g).cell ≠ (t.br g).cell := by
        unfold Tr.br' Tr.br Tr.left Tr.right; cases g.lt <;> simp <;> omega
      have hbo3 : (t.br' g).cell ≠ (t.nd f.p).cell := by
        have hcc : (t.br' g).cell = (t.nd g.p).cell + 1 ∨ (t.br' g).cell = (t.nd g.p).cell + 2 := by unfold Tr.br' Tr.left Tr.right; split; exact Or.inr rfl; exact Or.inl rfl
        rcases hcc with e | e <;> rw [e]
        · have := cell_ne g1 f1 (Ne.symm hfg) (i := 1) (j := 0) (by omega) (by omega) (by omega) (by omega); rwa [Int.add_zero] at this
        · have := cell_ne g1 f1 (Ne.symm hfg) (i := 2) (j := 0) (by omega) (by omega) (by omega) (by omega); rwa [Int.add_zero] at this
      rw [cat, if_neg hbo.1, if_neg hbo.2, if_neg hbo3]
  have htop' : (g :: C).getLast? = some topF := by simpa using htop
  obtain ⟨L', hL'⟩ := plug_top (g :: C) f.sib htop'
  refine ⟨L', ⟨?_, ?_, clive, ?_, by rw [clen, cns]; exact hq.len, by rw [cns]; exact hq.mod, by rw [hnd]; exact hq.top, by rw [hnd]; exact hq.one, ?_, cisu⟩, hL', hm⟩
  · rw [← hL', at_plug]; exact ⟨hcx, hm.at_ f4 hsibf⟩
  · rw [← hL']
    refine (plug_inners (g :: C) f.sib).nodup_iff.2 ?_
    exact (List.perm_append_comm.nodup_iff).1 hn2.2
  · intro o ho
    rw [cws] at ho
    rw [cns]
    rcases List.mem_append.1 ho with h1 | h1
    · exact hq.wks o h1
    · simp only [List.mem_singleton] at h1
      subst h1
      exact ⟨g1.lt, f1.lt, fun p hp => by cases hp⟩
  · rw [hnd]
    have hp2 : plug (g :: C) (f.fill (.leaf l)) = .node 2 L (.leaf 1) := hp1
    rcases last_plug (g :: C) (f.fill (.leaf l)) f.sib L L' htop' hp2 hL' with h1 | ⟨h1, h2⟩
    · rw [h1]; exact hq.last
    · rw [h2]
      rw [fill_last] at h1
      have hl := hq.last
      rw [h1] at hl
      cases hlt : f.lt
      · rw [hlt] at hl
        simp only [Bool.false_eq_true, if_false, PT.last] at hl
        unfold Nd.has at hh
        rw [hl] at hh; simp at hh
      · rw [hlt] at hl
        simpa using hl
end Go.Proofs.Ythiobdhdefimhaa
