/- PACKAGE bst, PLAINLY: a Delete alone, from the leaf on
PACKAGE bst, PLAINLY: a Delete alone: the words asked
PACKAGE bst, PLAINLY: what a Delete alone leaves is quiet
PACKAGE bst: New
PACKAGE bst, PLAINLY: each call alone, on a quiet tree
PACKAGE bst, PLAINLY: Delete alone, on a quiet tree
PACKAGE bst, PLAINLY: the keys' order; what a tree holds
PACKAGE bst, PLAINLY: what a tree holds behind an Insert; an empty one -/
import Derived.Test.YtmhiolhgofackaaBsQ
import Derived.Test.YtmhiolhgofackaaBsMake
namespace Go.Proofs.Ytmhiolhgofackaa
open Go.RowKit
set_option linter.unusedVariables false
set_option linter.unusedSimpArgs false

/-- what a Delete leaves -/
def remT (t : Tr) (f g : Fm) (k : ByteArray) : Tr :=
  let i := t.ws.length + 1
  let t5 := t.begin ⟨2, k, g.p, f.p, none, t.ms.at (t.word f.p)⟩ (t.ms.at (t.word g.p))
  let t6 := t5.cas (t.word f.p) (t.ms.at (t.word f.p)) (packW 3 i)
  let t7 := t6.ask (t.br' f).cell
  let t8 := t7.turn (t.br g) f.p f.sib.pl
  (t8.cas (t.word g.p) (packW 2 i) (packW 0 i)).done i
structure Same (t t' : Tr) (o : Wk) : Prop where
  ns : t'.ns = t.ns
  ws : t'.ws = t.ws ++ [o]
theorem Same.nd {t t' : Tr} {o : Wk} (h : Same t t' o) (p : Nat) : t'.nd p = t.nd p := by unfold Tr.nd; rw [h.ns]
theorem Same.wk {t t' : Tr} {o : Wk} (h : Same t t' o) : t'.wk (t.ws.length + 1) = o := by unfold Tr.wk; rw [h.ws]; simp [List.getD_eq_getElem?_getD]
theorem NdOk.of {t t' : Tr} {p : Nat} (h : NdOk t p) (hn : t'.ns = t.ns) : NdOk t' p := by
  obtain ⟨a, b, c, d, e⟩ := h
  have : t'.nd p = t.nd p := by unfold Tr.nd; rw [hn]
  exact ⟨by rw [hn]; exact a, b, c, by rw [this]; exact d, by rw [this]; exact e⟩
theorem rem_facts {t : Tr} {L : PT} (hq : Quiet t L) {f g : Fm} {C : List Fm} {l : Nat} (hp1 : plug (f :: g :: C) (.leaf l) = .node 2 L (.leaf 1)) (htop : (f :: g :: C).getLast? = some topF) :
    LfOk t l ∧ FmOk t f l ∧ FmOk t g f.p ∧ CxAt t C g.p ∧ f.p ≠ g.p ∧ (cxInners (f :: g :: C)).Nodup := by
  have hqc := hq.qc hp1 htop
  obtain ⟨k1, k2, k3⟩ := hqc.cx
  have hnd := (List.nodup_append.1 hqc.nodup).1
  refine ⟨hqc.x, k1, k2, k3, ?_, hnd⟩
  have : (f.p :: (f.sib.inners ++ (g.p :: (g.sib.inners ++ cxInners C)))).Nodup := hnd
  intro e
  exact (List.nodup_cons.1 this).1 (List.mem_append_right _ (by rw [e]; simp))
theorem rem_lose {t : Tr} {L : PT} (hq : Quiet t L) {f g : Fm} {C : List Fm} {l : Nat} (hp1 : plug (f :: g :: C) (.leaf l) = .node 2 L (.leaf 1)) (htop : (f :: g :: C).getLast? = some topF) {c : Cl} (hk : c.kd = .rem) (hpl2 : 2 ≤ c.path.length) (hup : c.up 0 = ⟨f.p, true, t.ms.at (t.word f.p)⟩) (hup1 : c.up 1 = ⟨g.p, true, t.ms.at (t.word g.p)⟩)
    (hov : c.over = none) (hpin : ∀ p ∈ c.path, p.node < t.ns.length) (hpl : c.path.length ≤ 65536) (hs : Sides t c.key (f :: g :: C)) (hr : Room t 8) :
    OkRun 5 t c (.lose l) (remT t f g c.key) (c.tell ⟨true, c.key, (t.nd l).val, 0⟩) := by
  obtain ⟨hx, ⟨f1, f2, f3, f4⟩, ⟨g1, g2, g3, g4⟩, hC, hfg, hnod⟩ := rem_facts hq hp1 htop
  have hcasg := begin_casB g1 hq.len
  have hcasf := begin_casB f1 hq.len
  have hsf := hs f (by simp)
  have hsg := hs g (by simp)
  obtain ⟨o, ho⟩ : ∃ o : Wk, o = ⟨2, c.key, g.p, f.p, none, t.ms.at (t.word f.p)⟩ := ⟨_, rfl⟩
  obtain ⟨i, hi⟩ : ∃ i, i = t.ws.length + 1 := ⟨_, rfl⟩
  obtain ⟨t5, ht5⟩ : ∃ t5, t5 = t.begin o (t.ms.at (t.word g.p)) := ⟨_, rfl⟩
  have hbo := begin_ok (t := t) (o := o) (s := t.ms.at (t.word g.p)) (by rw [ho]; exact hcasg)
  rw [← ht5] at hbo
  have s5 : Same t t5 o := ⟨by rw [ht5]; exact begin_ns _ _ _, by rw [hbo]; rfl⟩
  have hms5 : t5.ms = t.ms.cas (t.word g.p) (t.ms.at (t.word g.p)) (packW 2 (i : Int)) := by rw [hbo, ho, hi]; rfl
  have hl5 : t5.ms.c.length = t.ms.c.length := by rw [hms5]; exact MS.cas_len ..
  have hn5 : t5.ms.n ≤ t.ms.n + 1 := by rw [hms5]; exact (MS.cas_n _ _ _ _).2
  have hgw : t.word g.p ≠ t.word f.p := by
    have := cell_ne g1 f1 (Ne.symm hfg) (i := 0) (j := 0) (by omega) (by omega) (by omega) (by omega)
    rw [Int.add_zero, Int.add_zero] at this; exact this
  have w5 : ∀ p, t5.word p = t.word p := fun p => by unfold Tr.word; rw [s5.nd]
  have at5f : t5.ms.at (t.word f.p) = t.ms.at (t.word f.p) := by rw [hms5, MS.at_cas, if_neg (fun e => hgw e.1.symm)]
  have hcasf5 : t5.ms.casB (t.word f.p) (t.ms.at (t.word f.p)) = true := by
    refine casB_of ?_ at5f
    rw [hms5, MS.has_cas]
    have := has_cell f1 hq.len 0 (by omega) (by omega)
    rwa [Int.add_zero] at this
  obtain ⟨t6, ht6⟩ : ∃ t6, t6 = t5.cas (t.word f.p) (t.ms.at (t.word f.p)) (packW 3 (i : Int)) := ⟨_, rfl⟩
  have s6 : Same t t6 o := ⟨by rw [ht6]; exact s5.ns, by rw [ht6]; exact s5.ws⟩
  have hl6 : t6.ms.c.length = t.ms.c.length := by rw [ht6]; show (t5.ms.cas _ _ _).c.length = _; rw [MS.cas_len, hl5]
  have hn6 : t6.ms.n ≤ t.ms.n + 2 := by rw [ht6]; have := (MS.cas_n t5.ms (t.word f.p) (t.ms.at (t.word f.p)) (packW 3 (i : Int))).2; show (t5.ms.cas _ _ _).n ≤ _; omega
  have hbf : t6.beside f.p c.key = t.br' f := by
    unfold Tr.beside Tr.left Tr.right; rw [s6.nd, ← hsf]; rfl
  have hbg : ∀ t' : Tr, t'.ns = t.ns → t'.toward g.p c.key = t.br g := fun t' hn => by
    unfold Tr.toward Tr.left Tr.right
    have : t'.nd g.p = t.nd g.p := by unfold Tr.nd; rw [hn]
    rw [this, ← hsg]; rfl
  have hb2 : (t.br' f).cell = (t.nd f.p).cell + 1 ∨ (t.br' f).cell = (t.nd f.p).cell + 2 := by unfold Tr.br' Tr.left Tr.right; split; exact Or.inr rfl; exact Or.inl rfl
  have hk6 : t6.kid (t.br' f) = f.sib.pl := by
    rw [← f3]
    unfold Tr.kid
    have hne : (t.br' f).cell ≠ t.word f.p := by unfold Tr.word; rcases hb2 with e | e <;> rw [e] <;> omega
    have hne2 : (t.br' f).cell ≠ t.word g.p := by
      unfold Tr.word
      rcases hb2 with e | e <;> rw [e]
      · have := cell_ne f1 g1 hfg (i := 1) (j := 0) (by omega) (by omega) (by omega) (by omega); rwa [Int.add_zero] at this
      · have := cell_ne f1 g1 hfg (i := 2) (j := 0) (by omega) (by omega) (by omega) (by omega); rwa [Int.add_zero] at this
    rw [ht6]
    show (((t.br' f).first + (t5.ms.cas _ _ _).at _) % _).toNat = _
    rw [MS.at_cas, if_neg (fun e => hne e.1), hms5, MS.at_cas, if_neg (fun e => hne2 e.1)]
  obtain ⟨t7, ht7⟩ : ∃ t7, t7 = t6.ask (t.br' f).cell := ⟨_, rfl⟩
  have s7 : Same t t7 o := ⟨by rw [ht7]; exact s6.ns, by rw [ht7]; exact s6.ws⟩
  have hl7 : t7.ms.c.length = t.ms.c.length := by rw [ht7, (SameC.ask t6 _).c, hl6]
  have hn7 : t7.ms.n ≤ t.ms.n + 3 := by rw [ht7]; have := (ask_n t6 (t.br' f).cell).2; omega
  obtain ⟨t8, ht8⟩ : ∃ t8, t8 = t7.turn (t.br g) f.p f.sib.pl := ⟨_, rfl⟩
  have s8 : Same t t8 o := ⟨by rw [ht8]; exact s7.ns, by rw [ht8]; exact s7.ws⟩
  have hl8 : t8.ms.c.length = t.ms.c.length := by rw [ht8]; show (t7.ms.cas _ _ _).c.length = _; rw [MS.cas_len, hl7]
  have hn8 : t8.ms.n ≤ t.ms.n + 4 := by rw [ht8]; show (t7.ms.cas _ _ _).n ≤ _; have := (MS.cas_n t7.ms (t.br g).cell (u64 ((f.p : Int) - (t.br g).first)) (u64 ((f.sib.pl : Int) - (t.br g).first))).2; omega
  have hsiblt := kid_lt f4
  have i1 : 1 ≤ i := by omega
  have il : ∀ t', Same t t' o → i ≤ t'.ws.length := fun t' h => by rw [h.ws, hi]; simp
  have wkk : ∀ t', Same t t' o → t'.wk i = o := fun t' h => by rw [hi]; exact h.wk
  have e1 : stepP t c (.lose l) = (t5, c, some (Stp.mark i (.told l) .fail)) := by
    show (t.begin ⟨2, c.key, (c.up 1).node, (c.up 0).node, none, (c.up 0).seen⟩ (c.up 1).seen, if t.ms.casB (t.word (c.up 1).node) (c.up 1).seen = true then _ else _) = _
    rw [hup, hup1]
    dsimp only
    rw [if_pos hcasg, ht5, ho, hi]
  have e2 : stepP t5 c (Stp.mark i (.told l) .fail) = (t6, c, some (Stp.drop i (.told l))) := by
    show (t5.cas (t5.word (t5.wk i).old) (t5.wk i).seen (packW 3 (i : Int)), c, some (if (t5.ms.casB (t5.word (t5.wk i).old) (t5.wk i).seen || t5.ms.at (t5.word (t5.wk i).old) == packW 3 (i : Int)) = true then _ else _)) = _
    rw [wkk t5 s5, ho]
    dsimp only
    rw [w5, hcasf5, ← ht6]
    rfl
  have e3 : stepP t6 c (Stp.drop i (.told l)) = (t7, c, some (Stp.take i f.sib.pl (.told l))) := by
    show (t6.ask (t6.beside (t6.wk i).old (t6.wk i).key).cell, c, some (Stp.take i (t6.kid (t6.beside (t6.wk i).old (t6.wk i).key)) (.told l))) = _
    rw [wkk t6 s6, ho]
    dsimp only
    rw [hbf, hk6, ← ht7]
  have e4 : stepP t7 c (Stp.take i f.sib.pl (.told l)) = (t8, c, some (Stp.fin i (.told l))) := by
    show (t7.turn (t7.toward (t7.wk i).at_ (t7.wk i).key) (t7.wk i).old f.sib.pl, c, _) = _
    rw [wkk t7 s7, ho]
    dsimp only
    rw [hbg t7 s7.ns, ← ht8]
  have e5 : stepP t8 c (Stp.fin i (.told l)) = (remT t f g c.key, c.tell ⟨true, c.key, (t.nd l).val, 0⟩, none) := by
    show ((t8.cas (t8.word (t8.wk i).at_) (packW (t8.wk i).state (i : Int)) (packW 0 (i : Int))).done i, c.run t8 (.told l)) = _
    rw [wkk t8 s8]
    have hrun : c.run t8 (.told l) = (c.tell ⟨true, c.key, (t.nd l).val, 0⟩, none) := by unfold Cl.run; dsimp only; rw [if_neg (by rw [hk]; decide), s8.nd]
    have hw : t8.word g.p = t.word g.p := by unfold Tr.word; rw [s8.nd]
    rw [hrun, ho]
    dsimp only
    rw [hw]
    have e9 : remT t f g c.key = (t8.cas (t.word g.p) (packW 2 (i : Int)) (packW 0 (i : Int))).done i := by
      rw [ht8, ht7, ht6, ht5, ho, hi]; rfl
    rw [e9]
  have hno := g1.nd hr.ns
  have hnf := f1.nd hr.ns
  have hsm : ∀ t' : Tr, Same t t' o → t'.ms.c.length = t.ms.c.length → t'.ms.n ≤ t.ms.n + 4 → Small t' c := fun t' h h1 h2 => ⟨by rw [h1]; exact hr.cells, by have := hr.asked; omega, by rw [h.ws]; have := hr.ws; simp; omega, by omega⟩
  have hwko : ∀ t', Same t t' o → WkOk t' i := fun t' h => ⟨i1, il t' h, by rw [wkk t' h, ho]; exact hno.of h.ns, by rw [wkk t' h, ho, h.ns]; exact f1.lt⟩
  refine okRun_step (n := 4) ⟨hk, hx.1, hpl2, by omega, by rw [hup1]; exact hno, by rw [hup]; exact f1.lt, hr.cells, by have := hr.asked; omega, (fun j hj => by rw [hq.live] at hj; cases hj), by have := hr.ws; omega, isu_at hq _, InOk.hlp hq.live, hpin, hov⟩ ⟨hr.cells, by have := hr.asked; omega, by have := hr.ws; omega, by omega⟩ ?_
  rw [e1]
  refine okRun_step (n := 3) ⟨i1, il t5 s5, by rw [wkk t5 s5, ho]; exact hnf.of s5.ns⟩ (hsm t5 s5 hl5 (by omega)) ?_
  rw [e2]
  refine okRun_step (n := 2) ⟨i1, il t6 s6, by rw [wkk t6 s6, ho]; exact hnf.of s6.ns, by rw [wkk t6 s6, ho]; dsimp only; rw [hbf, hk6, s6.ns]; exact hsiblt⟩ (hsm t6 s6 hl6 (by omega)) ?_
  rw [e3]
  refine okRun_step (n := 1) ⟨hwko t7 s7, by rw [s7.ns]; exact hsiblt⟩ (hsm t7 s7 hl7 (by omega)) ?_
  rw [e4]
  refine okRun_step (n := 0) ⟨hwko t8 s8, Or.inr ⟨hk, by rw [s8.ns]; exact hx.1⟩⟩ (hsm t8 s8 hl8 (by omega)) ?_
  rw [e5]
  exact ⟨rfl, rfl⟩
end Go.Proofs.Ytmhiolhgofackaa
namespace Go.Proofs.Ytmhiolhgofackaa
open Go.RowKit
set_option linter.unusedVariables false
set_option linter.unusedSimpArgs false

theorem pass_up (c : Cl) (p : Nat) : (c.pass p).up 0 = ⟨p, false, 0⟩ := by
  unfold Cl.up Cl.pass; simp [List.getD_eq_getElem?_getD]
theorem pass_saw_up1 {c : Cl} (h : c.path ≠ []) (p : Nat) (w : Int) : ((c.pass p).saw w).up 1 = c.up 0 := by
  have := List.length_pos_iff.2 h
  unfold Cl.saw Cl.up Cl.pass
  simp only [List.length_set, List.length_append, List.length_singleton, List.getD_eq_getElem?_getD]
  rw [List.getElem?_set_ne (by omega), List.getElem?_append_left (by omega)]
  congr 2
theorem rem_steps {t : Tr} {L : PT} (hq : Quiet t L) {f g : Fm} {C : List Fm} {l : Nat} (hp1 : plug (f :: g :: C) (.leaf l) = .node 2 L (.leaf 1)) (htop : (f :: g :: C).getLast? = some topF) {c : Cl} (hk : c.kd = .rem) (hp : c.path = pathOf (g :: C)) (hov : c.over = none)
    (hs : Sides t c.key (f :: g :: C)) (hh : (t.nd l).has c.key = true) (hr : Room t 20) :
    ∃ t5 cz, SameC t t5 ∧ t5.ms.n ≤ t.ms.n + 4 ∧ cz.ans = ⟨true, c.key, (t.nd l).val, 0⟩ ∧ OkRun 9 t c .look (remT t5 f g c.key) cz := by
  obtain ⟨hx, ⟨f1, f2, f3, f4⟩, ⟨g1, g2, g3, g4⟩, hC, hfg, hnod⟩ := rem_facts hq hp1 htop
  have hsf := hs f (by simp)
  have hsg := hs g (by simp)
  have hup := up_pathOf hp
  have hne : c.path ≠ [] := by rw [hp]; simp [pathOf]
  have hcin : ∀ x ∈ g :: C, InOk t x.p := (show CxAt t (g :: C) f.p from ⟨⟨g1, g2, g3, g4⟩, hC⟩).inOk
  have hplen : c.path.length + 1 ≤ 65536 + 1 := by
    rw [hp, pathOf_len]
    have h1 := cx_len (C := f :: g :: C)
    have h3 : (cxInners (f :: g :: C)).length ≤ t.ns.length := nodup_len hnod (fun x hx => by
      have h4 := at_inners hq.at_
      rw [← hp1] at h4
      exact (h4 x ((plug_inners (f :: g :: C) (.leaf l)).mem_iff.2 (List.mem_append_left _ hx))).lt)
    have := hr.ns
    simp only [List.length_cons] at h1 ⊢
    omega
  have hplen2 : c.path.length + 1 ≤ 65536 := by
    rw [hp, pathOf_len]
    have h1 := cx_len (C := f :: g :: C)
    have h3 : (cxInners (f :: g :: C)).length ≤ t.ns.length := nodup_len hnod (fun x hx => by
      have h4 := at_inners hq.at_
      rw [← hp1] at h4
      exact (h4 x ((plug_inners (f :: g :: C) (.leaf l)).mem_iff.2 (List.mem_append_left _ hx))).lt)
    have := hr.ns
    simp only [List.length_cons] at h1 ⊢
    omega
  -- look at g
  obtain ⟨Wg, hWg⟩ : ∃ W, W = t.ms.at (t.word g.p) := ⟨_, rfl⟩
  obtain ⟨W, hW⟩ : ∃ W, W = t.ms.at (t.word f.p) := ⟨_, rfl⟩
  have hcg : Wg % 4 = 0 := by rw [hWg]; exact g1.clean
  have hcf : W % 4 = 0 := by rw [hW]; exact f1.clean
  obtain ⟨t2, ht2⟩ : ∃ t2, t2 = t.ask (t.word g.p) := ⟨_, rfl⟩
  have s2 : SameC t t2 := by rw [ht2]; exact SameC.ask _ _
  have n2 : t2.ms.n ≤ t.ms.n + 1 := by rw [ht2]; exact (ask_n _ _).2
  obtain ⟨c2, hc2⟩ : ∃ c2, c2 = c.saw Wg := ⟨_, rfl⟩
  have e1 : stepP t c .look = (t2, c2, some .down) := by
    show (t.ask (t.word (c.up 0).node), c.met t (t.ms.at (t.word (c.up 0).node))) = _
    rw [hup]
    show (t.ask (t.word g.p), c.met t (t.ms.at (t.word g.p))) = _
    rw [← ht2, ← hWg]
    unfold Cl.met
    rw [if_pos hcg, hc2]
  have up2 : c2.up 0 = ⟨g.p, true, Wg⟩ := by rw [hc2, saw_up hne, hup]
  have k2 : c2.kd = .rem ∧ c2.key = c.key ∧ c2.over = none ∧ c2.path.length = c.path.length := by rw [hc2]; exact ⟨hk, rfl, hov, by simp [Cl.saw]⟩
  have ne2 : c2.path ≠ [] := by
    intro e
    have h9 := k2.2.2.2
    rw [e] at h9
    exact hne (List.eq_nil_of_length_eq_zero h9.symm)
  have in2 : ∀ p ∈ c2.path, p.node < t.ns.length := by
    intro p hp9
    rw [hc2] at hp9
    unfold Cl.saw at hp9
    dsimp only at hp9
    rcases List.mem_or_eq_of_mem_set hp9 with h1 | h1
    · rw [hp] at h1
      obtain ⟨x, hx9, rfl⟩ := pathOf_in h1
      exact (hcin x hx9).lt
    · rw [h1]; dsimp only; rw [hup]; exact g1.lt
  -- down to f
  have hbg : t2.toward g.p c.key = t.br g := by unfold Tr.toward; rw [s2.nd, s2.left, s2.right]; exact (br_toward hsg).1
  obtain ⟨t3, ht3⟩ : ∃ t3, t3 = t2.ask (t.br g).cell := ⟨_, rfl⟩
  have s3 : SameC t t3 := s2.trans (by rw [ht3]; exact SameC.ask _ _)
  have n3 : t3.ms.n ≤ t.ms.n + 2 := by have := (ask_n t2 (t.br g).cell).2; rw [ht3]; omega
  have hkid2 : t2.kid (t.br g) = f.p := by rw [s2.kid]; exact g2
  have hin2 : (t2.nd f.p).inner = true := by rw [s2.nd]; exact f1.inner
  obtain ⟨c3, hc3⟩ : ∃ c3, c3 = c2.pass f.p := ⟨_, rfl⟩
  have e2 : stepP t2 c2 .down = (t3, c3, some .look) := by
    show (t2.ask (t2.toward (c2.up 0).node c2.key).cell, if (t2.nd (t2.kid (t2.toward (c2.up 0).node c2.key))).inner then (c2.pass (t2.kid (t2.toward (c2.up 0).node c2.key)), some Stp.look) else c2.leaf t2 (t2.kid (t2.toward (c2.up 0).node c2.key)) .way) = _
    rw [up2, k2.2.1]
    dsimp only
    rw [hbg, hkid2, hin2, if_pos rfl, ← ht3, hc3]
  have up3 : c3.up 0 = ⟨f.p, false, 0⟩ := by rw [hc3]; exact pass_up _ _
  have k3 : c3.kd = .rem ∧ c3.key = c.key ∧ c3.over = none ∧ c3.path.length = c.path.length + 1 := by rw [hc3]; exact ⟨k2.1, k2.2.1, k2.2.2.1, by simp [Cl.pass, k2.2.2.2]⟩
  have ne3 : c3.path ≠ [] := by intro e; have := k3.2.2.2; rw [e] at this; simp at this
  -- look at f
  obtain ⟨t4, ht4⟩ : ∃ t4, t4 = t3.ask (t.word f.p) := ⟨_, rfl⟩
  have s4 : SameC t t4 := s3.trans (by rw [ht4]; exact SameC.ask _ _)
  have n4 : t4.ms.n ≤ t.ms.n + 3 := by have := (ask_n t3 (t.word f.p)).2; rw [ht4]; omega
  obtain ⟨c4, hc4⟩ : ∃ c4, c4 = c3.saw W := ⟨_, rfl⟩
  have e3 : stepP t3 c3 .look = (t4, c4, some .down) := by
    show (t3.ask (t3.word (c3.up 0).node), c3.met t3 (t3.ms.at (t3.word (c3.up 0).node))) = _
    rw [up3]
    dsimp only
    have hwf : t3.word f.p = t.word f.p := by unfold Tr.word; rw [s3.nd]
    rw [hwf, ← ht4, s3.atc, ← hW]
    unfold Cl.met
    rw [if_pos hcf, hc4]
  have up4 : c4.up 0 = ⟨f.p, true, W⟩ := by rw [hc4, saw_up ne3, up3]
  have up41 : c4.up 1 = ⟨g.p, true, Wg⟩ := by rw [hc4, hc3, pass_saw_up1 ne2, up2]
  have k4 : c4.kd = .rem ∧ c4.key = c.key ∧ c4.over = none ∧ c4.path.length = c.path.length + 1 := by rw [hc4]; exact ⟨k3.1, k3.2.1, k3.2.2.1, by simp [Cl.saw, k3.2.2.2]⟩
  have ne4 : c4.path ≠ [] := by intro e; have := k4.2.2.2; rw [e] at this; simp at this
  have in4 : ∀ p ∈ c4.path, p.node < t.ns.length := by
    intro p hp9
    rw [hc4] at hp9
    unfold Cl.saw at hp9
    dsimp only at hp9
    rcases List.mem_or_eq_of_mem_set hp9 with h1 | h1
    · rw [hc3] at h1
      unfold Cl.pass at h1
      dsimp only at h1
      rcases List.mem_append.1 h1 with h1 | h1
      · exact in2 p h1
      · simp only [List.mem_singleton] at h1; rw [h1]; exact f1.lt
    · rw [h1]; dsimp only; rw [up3]; exact f1.lt
  -- down to l
  have hbf : t4.toward f.p c.key = t.br f := by unfold Tr.toward; rw [s4.nd, s4.left, s4.right]; exact (br_toward hsf).1
  obtain ⟨t5, ht5⟩ : ∃ t5, t5 = t4.ask (t.br f).cell := ⟨_, rfl⟩
  have s5 : SameC t t5 := s4.trans (by rw [ht5]; exact SameC.ask _ _)
  have n5 : t5.ms.n ≤ t.ms.n + 4 := by have := (ask_n t4 (t.br f).cell).2; rw [ht5]; omega
  have hkid4 : t4.kid (t.br f) = l := by rw [s4.kid]; exact f2
  have hin4 : (t4.nd l).inner = false := by rw [s4.nd]; exact hx.2
  have e4 : stepP t4 c4 .down = (t5, c4, some (.lose l)) := by
    show (t4.ask (t4.toward (c4.up 0).node c4.key).cell, if (t4.nd (t4.kid (t4.toward (c4.up 0).node c4.key))).inner then (c4.pass (t4.kid (t4.toward (c4.up 0).node c4.key)), some Stp.look) else c4.leaf t4 (t4.kid (t4.toward (c4.up 0).node c4.key)) .way) = _
    rw [up4, k4.2.1]
    dsimp only
    rw [hbf, hkid4, hin4, if_neg (by simp), ← ht5]
    unfold Cl.leaf
    rw [k4.1]
    dsimp only
    rw [s4.nd, k4.2.1, hh, if_pos rfl, up41, if_pos rfl]
  have l2 := k2.2.2.2
  have l3 := k3.2.2.2
  have l4 := k4.2.2.2
  refine ⟨t5, c4.tell ⟨true, c.key, (t.nd l).val, 0⟩, s5, n5, rfl, okRun_step (n := 8) ⟨Or.inr hk, hne, by rw [hup]; exact g1.nd hr.ns, by rw [hup]; exact isu_at hq _, InOk.hlp hq.live⟩ (hr.small (by omega)) ?_⟩
  rw [e1]
  refine okRun_step (n := 7) ⟨Or.inr k2.1, ne2, by rw [up2]; exact (s2.inOk g1).nd (by rw [s2.ns]; exact hr.ns), ?_⟩ ((Room.same (k := 19) (j := 1) hr s2 (by omega)).small (by show c2.path.length ≤ _; omega)) ?_
  · rw [up2, k2.2.1]
    dsimp only
    rw [hbg, hkid2]
    exact ⟨by rw [s2.ns]; exact f1.lt, (by show c2.path.length ≤ _; omega), fun _ => (s2.inOk f1).nd (by rw [s2.ns]; exact hr.ns), (fun e => by rw [hin2] at e; cases e)⟩
  rw [e2]
  refine okRun_step (n := 6) ⟨Or.inr k3.1, ne3, by rw [up3]; exact (s3.inOk f1).nd (by rw [s3.ns]; exact hr.ns), isu_at (s3.quiet hq) _, InOk.hlp (s3.quiet hq).live⟩ ((Room.same (k := 18) (j := 2) hr s3 (by omega)).small (by show c3.path.length ≤ _; omega)) ?_
  rw [e3]
  refine okRun_step (n := 5) ⟨Or.inr k4.1, ne4, by rw [up4]; exact (s4.inOk f1).nd (by rw [s4.ns]; exact hr.ns), ?_⟩ ((Room.same (k := 17) (j := 3) hr s4 (by omega)).small (by show c4.path.length ≤ _; omega)) ?_
  · rw [up4, k4.2.1]
    dsimp only
    rw [hbf, hkid4]
    exact ⟨by rw [s4.ns]; exact hx.1, (by show c4.path.length ≤ _; omega), (fun e => by rw [hin4] at e; cases e), fun _ => ⟨by rw [s4.ns]; exact hx.1, (by show c4.path.length ≤ _; omega), (fun e => by rw [k4.1] at e; cases e), fun _ _ => (by show 2 ≤ c4.path.length; have := List.length_pos_iff.2 hne; omega), (fun e => by rw [k4.1] at e; cases e)⟩⟩
  rw [e4]
  have hq5 := s5.quiet hq
  have w5f : t5.ms.at (t5.word f.p) = W := by rw [hW]; unfold Tr.word; rw [s5.nd, s5.atc]
  have w5g : t5.ms.at (t5.word g.p) = Wg := by rw [hWg]; unfold Tr.word; rw [s5.nd, s5.atc]
  have hs5 : Sides t5 c4.key (f :: g :: C) := fun x hx9 => by rw [s5.nd, k4.2.1]; exact hs x hx9
  have hr5 : Room t5 8 := Room.same (k := 8) (j := 12) hr s5 (by omega)
  have := rem_lose hq5 hp1 htop k4.1 (by have := List.length_pos_iff.2 hne; omega) (by rw [up4, w5f]) (by rw [up41, w5g]) k4.2.2.1 (fun p hp9 => by rw [s5.ns]; exact in4 p hp9) (by omega) hs5 hr5
  rw [k4.2.1, s5.nd] at this
  exact this
end Go.Proofs.Ytmhiolhgofackaa
namespace Go.Proofs.Ytmhiolhgofackaa
open Go.RowKit
set_option linter.unusedVariables false
set_option linter.unusedSimpArgs false

theorem rem_cells {t : Tr} {L : PT} (hq : Quiet t L) {f g : Fm} {C : List Fm} {l : Nat} (hp1 : plug (f :: g :: C) (.leaf l) = .node 2 L (.leaf 1)) (htop : (f :: g :: C).getLast? = some topF) (k : ByteArray) :
    (∀ x, (remT t f g k).ms.at x = if x = (t.nd g.p).cell then packW 0 ((t.ws.length + 1 : Nat) : Int) else if x = (t.br g).cell then u64 ((f.sib.pl : Int) - (t.br g).first) else if x = (t.nd f.p).cell then packW 3 ((t.ws.length + 1 : Nat) : Int) else t.ms.at x) ∧
    (remT t f g k).ns = t.ns ∧ (remT t f g k).ms.c.length = t.ms.c.length ∧ (∀ x ∈ (remT t f g k).ms.c, IsU x) ∧ (remT t f g k).ms.n ≤ t.ms.n + 5 ∧
    (remT t f g k).ws = t.ws ++ [⟨2, k, g.p, f.p, none, t.ms.at (t.word f.p)⟩] ∧ ∀ i, (remT t f g k).live i = false := by
  obtain ⟨hx, ⟨f1, f2, f3, f4⟩, ⟨g1, g2, g3, g4⟩, hC, hfg, hnod⟩ := rem_facts hq hp1 htop
  have hcasg := begin_casB g1 hq.len
  obtain ⟨o, ho⟩ : ∃ o : Wk, o = ⟨2, k, g.p, f.p, none, t.ms.at (t.word f.p)⟩ := ⟨_, rfl⟩
  obtain ⟨i, hi⟩ : ∃ i, i = t.ws.length + 1 := ⟨_, rfl⟩
  obtain ⟨Wg, hWg⟩ : ∃ W, W = t.ms.at (t.word g.p) := ⟨_, rfl⟩
  obtain ⟨Wf, hWf⟩ : ∃ W, W = t.ms.at (t.word f.p) := ⟨_, rfl⟩
  obtain ⟨wg, hwg⟩ : ∃ w, w = (t.nd g.p).cell := ⟨_, rfl⟩
  obtain ⟨wf, hwf⟩ : ∃ w, w = (t.nd f.p).cell := ⟨_, rfl⟩
  have hg' : t.word g.p = wg := by rw [hwg]; rfl
  have hf' : t.word f.p = wf := by rw [hwf]; rfl
  have hbo := begin_ok (t := t) (o := o) (s := Wg) (by rw [ho, hWg]; exact hcasg)
  have hasg : ∀ j : Int, 0 ≤ j → j < 3 → t.ms.has (wg + j) = true := fun j j0 j1 => by rw [hwg]; exact has_cell g1 hq.len j j0 j1
  have hasf : ∀ j : Int, 0 ≤ j → j < 3 → t.ms.has (wf + j) = true := fun j j0 j1 => by rw [hwf]; exact has_cell f1 hq.len j j0 j1
  have hg0 : t.ms.has wg = true := by have := hasg 0 (by omega) (by omega); rwa [Int.add_zero] at this
  have hf0 : t.ms.has wf = true := by have := hasf 0 (by omega) (by omega); rwa [Int.add_zero] at this
  have ne : ∀ a b : Int, 0 ≤ a → a < 3 → 0 ≤ b → b < 3 → wg + a ≠ wf + b := fun a b a0 a1 b0 b1 => by rw [hwg, hwf]; exact cell_ne g1 f1 (Ne.symm hfg) a0 a1 b0 b1
  have hgf : wg ≠ wf := by have := ne 0 0 (by omega) (by omega) (by omega) (by omega); rwa [Int.add_zero, Int.add_zero] at this
  have hbc : (t.br g).cell = wg + (if g.lt then 1 else 2) := by rw [br_cell, hwg]
  obtain ⟨d, hd⟩ : ∃ d : Int, d = (if g.lt then 1 else 2) := ⟨_, rfl⟩
  rw [← hd] at hbc
  have d0 : 1 ≤ d ∧ d ≤ 2 := by rw [hd]; split <;> omega
  have hbg : (t.br g).cell ≠ wg := by rw [hbc]; omega
  have hbf : (t.br g).cell ≠ wf := by rw [hbc]; have := ne d 0 (by omega) (by omega) (by omega) (by omega); rwa [Int.add_zero] at this
  have hbh : t.ms.has (t.br g).cell = true := by rw [hbc]; exact hasg d (by omega) (by omega)
  -- the cells, one behind the other
  obtain ⟨m1, hm1⟩ : ∃ m, m = t.ms.cas wg Wg (packW 2 (i : Int)) := ⟨_, rfl⟩
  have c1 : t.ms.casB wg Wg = true := casB_of hg0 (by rw [hWg, hg'])
  have at1 : ∀ x, m1.at x = if x = wg then packW 2 (i : Int) else t.ms.at x := fun x => by
    rw [hm1, MS.at_cas]
    by_cases e : x = wg
    · rw [if_pos ⟨e, c1⟩, if_pos e]
    · rw [if_neg (fun h => e h.1), if_neg e]
  obtain ⟨m2, hm2⟩ : ∃ m, m = m1.cas wf Wf (packW 3 (i : Int)) := ⟨_, rfl⟩
  have c2 : m1.casB wf Wf = true := casB_of (by rw [hm1, MS.has_cas]; exact hf0) (by rw [at1, if_neg hgf.symm, hWf, hf'])
  have at2 : ∀ x, m2.at x = if x = wf then packW 3 (i : Int) else m1.at x := fun x => by
    rw [hm2, MS.at_cas]
    by_cases e : x = wf
    · rw [if_pos ⟨e, c2⟩, if_pos e]
    · rw [if_neg (fun h => e h.1), if_neg e]
  obtain ⟨m3, hm3⟩ : ∃ m, m = m2.ask (t.br' f).cell := ⟨_, rfl⟩
  have at3 : ∀ x, m3.at x = m2.at x := fun x => by rw [hm3]; exact MS.at_ask _ _ _
  have len3 : m3.c.length = t.ms.c.length := by rw [hm3, MS.ask_len, hm2, MS.cas_len, hm1, MS.cas_len]
  have has3 : ∀ x, m3.has x = t.ms.has x := fun x => by unfold MS.has; rw [len3]
  have at3b : m3.at (t.br g).cell = t.ms.at (t.br g).cell := by rw [at3, at2, if_neg hbf, at1, if_neg hbg]
  obtain ⟨m4, hm4⟩ : ∃ m, m = m3.cas (t.br g).cell (u64 ((f.p : Int) - (t.br g).first)) (u64 ((f.sib.pl : Int) - (t.br g).first)) := ⟨_, rfl⟩
  have c4 : m3.casB (t.br g).cell (u64 ((f.p : Int) - (t.br g).first)) = true := by
    have hk : ({ t with ms := m3 } : Tr).kid (t.br g) = f.p := by
      unfold Tr.kid; dsimp only; rw [at3b]; exact g2
    exact kid_cas hk (by dsimp only; rw [at3b]; exact isu_at hq _) (by dsimp only; rw [has3]; exact hbh)
  have at4 : ∀ x, m4.at x = if x = (t.br g).cell then u64 ((f.sib.pl : Int) - (t.br g).first) else m3.at x := fun x => by
    rw [hm4, MS.at_cas]
    by_cases e : x = (t.br g).cell
    · rw [if_pos ⟨e, c4⟩, if_pos e]
    · rw [if_neg (fun h => e h.1), if_neg e]
  have c5 : m4.casB wg (packW 2 (i : Int)) = true := casB_of (by rw [hm4, MS.has_cas, has3]; exact hg0) (by rw [at4, if_neg hbg.symm, at3, at2, if_neg hgf, at1, if_pos rfl])
  have hbns : (t.begin o Wg).ns = t.ns := begin_ns _ _ _
  have hms : (remT t f g k).ms = m4.cas wg (packW 2 (i : Int)) (packW 0 (i : Int)) := by
    have e1 : (t.begin o Wg).ms = m1 := by rw [hbo, ho, hm1, hi]; show t.ms.cas (t.word g.p) Wg _ = _; rw [hg']; rfl
    have e2 : (remT t f g k).ms = ((((t.begin o Wg).ms.cas (t.word f.p) Wf (packW 3 (i : Int))).ask (t.br' f).cell).cas (t.br g).cell (u64 ((f.p : Int) - (t.br g).first)) (u64 ((f.sib.pl : Int) - (t.br g).first))).cas (t.word g.p) (packW 2 (i : Int)) (packW 0 (i : Int)) := by
      rw [hWg, hWf, ho, hi]; rfl
    rw [e2, e1, hf', hg', ← hm2, ← hm3, ← hm4]
  refine ⟨fun x => ?_, ?_, ?_, ?_, ?_, ?_, fun j => ?_⟩
  · rw [hms, MS.at_cas, ← hwg, ← hwf, ← hi]
    by_cases e : x = wg
    · rw [if_pos ⟨e, c5⟩, if_pos e]
    · rw [if_neg (fun h => e h.1), if_neg e, at4]
      by_cases e2 : x = (t.br g).cell
      · rw [if_pos e2, if_pos e2]
      · rw [if_neg e2, if_neg e2, at3, at2, at1, if_neg e]
  · have : (remT t f g k).ns = (t.begin o Wg).ns := by rw [hWg, ho]; rfl
    rw [this, hbns]
  · rw [hms, MS.cas_len, hm4, MS.cas_len, len3]
  · rw [hms]
    refine MS.cas_mem (isU_packW _ _) ?_
    rw [hm4]
    refine MS.cas_mem (isU_u64 _) ?_
    have : ∀ x ∈ m2.c, IsU x := by
      rw [hm2]
      refine MS.cas_mem (isU_packW _ _) ?_
      rw [hm1]
      exact MS.cas_mem (isU_packW _ _) hq.isu
    rw [hm3]
    unfold MS.ask; split <;> exact this
  · rw [hms]
    have h5 := (MS.cas_n m4 wg (packW 2 (i : Int)) (packW 0 (i : Int))).2
    have h4 := (MS.cas_n m3 (t.br g).cell (u64 ((f.p : Int) - (t.br g).first)) (u64 ((f.sib.pl : Int) - (t.br g).first))).2
    rw [← hm4] at h4
    have h3 : m3.n ≤ m2.n + 1 := by rw [hm3]; unfold MS.ask; split; exact Nat.le_refl _; exact Nat.le_succ _
    have h2 := (MS.cas_n m1 wf Wf (packW 3 (i : Int))).2
    rw [← hm2] at h2
    have h1 := (MS.cas_n t.ms wg Wg (packW 2 (i : Int))).2
    rw [← hm1] at h1
    omega
  · have : (remT t f g k).ws = (t.begin o Wg).ws := by rw [hWg, ho]; rfl
    rw [this, hbo, ← ho]; rfl
  · have e1 : (remT t f g k).live = fun j => if j = i then false else (t.begin o Wg).live j := by rw [hWg, ho, hi]; rfl
    rw [e1]
    dsimp only
    by_cases e : j = i
    · rw [if_pos e]
    · rw [if_neg e, hbo]
      show (if j = t.ws.length + 1 then true else t.live j) = false
      rw [if_neg (by rw [← hi]; exact e)]; exact hq.live j
theorem rem_quiet {t : Tr} {L : PT} (hq : Quiet t L) {f g : Fm} {C : List Fm} {l : Nat} (hp1 : plug (f :: g :: C) (.leaf l) = .node 2 L (.leaf 1)) (htop : (f :: g :: C).getLast? = some topF) (k : ByteArray) (hh : (t.nd l).has k = true) :
    ∃ L', Quiet (remT t f g k) L' ∧ plug (g :: C) f.sib = .node 2 L' (.leaf 1) ∧ More [f.p, g.p] t (remT t f g k) := by
  obtain ⟨cat, cns, clen, cisu, cn, cws, clive⟩ := rem_cells hq hp1 htop k
  obtain ⟨hx, ⟨f1, f2, f3, f4⟩, ⟨g1, g2, g3, g4⟩, hC, hfg, hnod⟩ := rem_facts hq hp1 htop
  have hqc := hq.qc hp1 htop
  obtain ⟨t6, ht6⟩ : ∃ t6, t6 = remT t f g k := ⟨_, rfl⟩
  rw [← ht6] at cat cns clen cisu cn cws clive ⊢
  have hnd : ∀ p, t6.nd p = t.nd p := fun p => by unfold Tr.nd; rw [cns]
  have hm : More [f.p, g.p] t t6 := more_of ⟨[], by rw [cns]; simp⟩ (fun p hp hpf i i0 i1 => by
    simp only [List.mem_cons, List.not_mem_nil, or_false, not_or] at hpf
    rw [cat]
    have h1 := cell_ne hp g1 hpf.2 i0 i1 (j := 0) (by omega) (by omega)
    have h2 := cell_ne hp f1 hpf.1 i0 i1 (j := 0) (by omega) (by omega)
    rw [Int.add_zero] at h1 h2
    rw [if_neg h1, if_neg, if_neg h2]
    rcases br_in (t := t) g with e | e <;> rw [e]
    · exact cell_ne hp g1 hpf.2 i0 i1 (by omega) (by omega)
    · exact cell_ne hp g1 hpf.2 i0 i1 (by omega) (by omega))
  have hn1 : (f.p :: (f.sib.inners ++ (g.p :: (g.sib.inners ++ cxInners C)))).Nodup := hnod
  have hn2 := List.nodup_cons.1 hn1
  have hn3 := List.nodup_append.1 hn2.2
  have hn4 := List.nodup_cons.1 hn3.2.1
  have hsibf : ∀ p ∈ f.sib.inners, p ∉ [f.p, g.p] := fun p hp hpf => by
    simp only [List.mem_cons, List.not_mem_nil, or_false] at hpf
    rcases hpf with rfl | rfl
    · exact hn2.1 (List.mem_append_left _ hp)
    · exact hn3.2.2 _ hp _ (by simp) rfl
  have hsibg : ∀ p ∈ g.sib.inners ++ cxInners C, p ∉ [f.p, g.p] := fun p hp hpf => by
    simp only [List.mem_cons, List.not_mem_nil, or_false] at hpf
    rcases hpf with rfl | rfl
    · exact hn2.1 (List.mem_append_right _ (List.mem_cons_of_mem _ hp))
    · exact hn4.1 hp
  have hw6 : t6.ms.at (t6.nd g.p).cell = packW 0 ((t.ws.length + 1 : Nat) : Int) := by rw [hnd, cat, if_pos rfl]
  have hbr6 : t6.br g = t.br g ∧ t6.br' g = t.br' g := by
    unfold Tr.br Tr.br' Tr.left Tr.right; rw [hnd]; exact ⟨rfl, rfl⟩
  have hsiblt := kid_lt f4
  have hcx : CxAt t6 (g :: C) f.sib.pl := by
    refine ⟨⟨⟨by rw [cns]; exact g1.lt, by rw [hnd]; exact g1.inner, g1.two, g1.mod, by rw [hnd]; exact g1.cell, by rw [hw6, packW_mod]; rfl, by rw [hw6]; exact isU_packW _ _⟩, ?_, ?_, hm.at_ g4 (fun p hp => hsibg p (List.mem_append_left _ hp))⟩, hm.cx hC (fun p hp => hsibg p (List.mem_append_right _ hp))⟩
    · rw [hbr6.1]
      have hl5 : t.ns.length < 18446744073709551616 ∨ True := Or.inr trivial
      refine kid_new ?_ ?_
      · have h1 : t.kid (t.br' f) < 18446744073709551616 := by unfold Tr.kid; omega
        rw [f3] at h1; exact h1
      · rw [cat, if_neg (by rcases br_in (t := t) g with e | e <;> rw [e] <;> omega), if_pos rfl]
    · rw [hbr6.2, ← g3]
      unfold Tr.kid
      have hbo : (t.br' g).cell ≠ (t.nd g.p).cell ∧ (t.br' g).cell ≠ (t.br g).cell := by
        unfold Tr.br' Tr.br Tr.left Tr.right; cases g.lt <;> simp <;> omega
      have hbo3 : (t.br' g).cell ≠ (t.nd f.p).cell := by
        have hcc : (t.br' g).cell = (t.nd g.p).cell + 1 ∨ (t.br' g).cell = (t.nd g.p).cell + 2 := by unfold Tr.br' Tr.left Tr.right; split; exact Or.inr rfl; exact Or.inl rfl
        rcases hcc with e | e <;> rw [e]
        · have := cell_ne g1 f1 (Ne.symm hfg) (i := 1) (j := 0) (by omega) (by omega) (by omega) (by omega); rwa [Int.add_zero] at this
        · have := cell_ne g1 f1 (Ne.symm hfg) (i := 2) (j := 0) (by omega) (by omega) (by omega) (by omega); rwa [Int.add_zero] at this
      rw [cat, if_neg hbo.1, if_neg hbo.2, if_neg hbo3]
  have htop' : (g :: C).getLast? = some topF := by simpa using htop
  obtain ⟨L', hL'⟩ := plug_top (g :: C) f.sib htop'
  refine ⟨L', ⟨?_, ?_, clive, ?_, by rw [clen, cns]; exact hq.len, by rw [cns]; exact hq.mod, by rw [hnd]; exact hq.top, by rw [hnd]; exact hq.one, ?_, cisu⟩, hL', hm⟩
  · rw [← hL', at_plug]; exact ⟨hcx, hm.at_ f4 hsibf⟩
  · rw [← hL']
    refine (plug_inners (g :: C) f.sib).nodup_iff.2 ?_
    exact (List.perm_append_comm.nodup_iff).1 hn2.2
  · intro o ho
    rw [cws] at ho
    rw [cns]
    rcases List.mem_append.1 ho with h1 | h1
    · exact hq.wks o h1
    · simp only [List.mem_singleton] at h1
      subst h1
      exact ⟨g1.lt, f1.lt, fun p hp => by cases hp⟩
  · rw [hnd]
    have hp2 : plug (g :: C) (f.fill (.leaf l)) = .node 2 L (.leaf 1) := hp1
    rcases last_plug (g :: C) (f.fill (.leaf l)) f.sib L L' htop' hp2 hL' with h1 | ⟨h1, h2⟩
    · rw [h1]; exact hq.last
    · rw [h2]
      rw [fill_last] at h1
      have hl := hq.last
      rw [h1] at hl
      cases hlt : f.lt
      · rw [hlt] at hl
        simp only [Bool.false_eq_true, if_false, PT.last] at hl
        unfold Nd.has at hh
        rw [hl] at hh; simp at hh
      · rw [hlt] at hl
        simpa using hl
end Go.Proofs.Ytmhiolhgofackaa
namespace Go.Proofs.Ytmhiolhgofackaa
open Go.RowKit
set_option linter.unusedVariables false
set_option linter.unusedSimpArgs false

def endN : Nd := ⟨false, true, ⟨#[]⟩, 0, 0⟩
def Tr.none (ms : MS) : Tr := ⟨[], [], fun _ => false, ms⟩
def Tr.new (ms : MS) : Tr := (Tr.none ms).join endN endN
set_option maxHeartbeats 4000000 in
theorem bt_plant (A : TA) (ms : MS) (w : World) (h : TreeB w A (Tr.none ms)) (hm : ms.c.length ≤ 65533) :
    Calls Try.prog 16 #[pt A.tb] w fun e w' => e = .returned (.bool true) ∧ ∃ A', TreeAt w' A' (Tr.new ms) ∧ A'.tb = A.tb ∧ A'.mb = A.mb ∧ Fr A.foot w w' ∧ ∀ x ∈ A'.foot, x ∈ A.foot ∨ w.heap.size ≤ x := by
  obtain ⟨wa, hwa⟩ : ∃ wa, wa = w.alloc (.cells (nodV 0 endN) 98) := ⟨_, rfl⟩
  have hfa : Fr [] w wa := by rw [hwa]; exact (Fr.refl [] w).alloc _
  have hnb : wa.heap[w.heap.size]? = some (.cells (nodV 0 endN) 98 (0, 0)) := by rw [hwa]; exact new_block w _
  have HJ : Hid (Calls Try.prog 40 #[pt A.tb, .agg (nodV 0 endN), .agg (nodV 0 endN)] wa (Joined wa A (Tr.none ms) endN endN)) := Lib.hid (nd_join A (Tr.none ms) endN endN 0 0 wa (h.keep0 hfa) (by simp [Tr.none]) (fun o ho => by simp [Tr.none] at ho) hm)
  obtain ⟨y0, y1, y2, y3, y4, y5⟩ := nod_cells hnb
  have HFA := Lib.hid hfa
  have HWA := Lib.hid hwa
  have HM := Lib.hid hm
  have HNL : Hid (A.nb = []) := Lib.hid (List.eq_nil_of_length_eq_zero (by have := h.nlen; simpa [Tr.none] using this))
  clear h hwa hfa hnb hm
  unfold nodV endN at HJ
  unfold endN at y1 y2 y3 y4 y5
  dsimp only at y1 y2 y3 y4 y5 HJ
  go_enter Try.func16, Try.ntmps16
  go_upto_region 2 with fail
  change Code.wp _ _ _ _ (w.alloc (.cells (nodV 0 endN) 98))
  rw [← HWA.out]
  go_wp2_with (go_at_call 40; refine HJ.out.mono ?_; rintro e w2 ⟨A1, rfl, ht, hf, hg, hl⟩; refine go_stop ?_)
  unfold Stop
  obtain ⟨nb, hnb⟩ : ∃ nb, nb = A1.nb.getD ((Tr.none ms).ns.length + 2) 0 := ⟨_, rfl⟩
  have e0 : A1.np ((Tr.none ms).ns.length + 2) = pt nb := by rw [hnb]; rfl
  rw [e0]
  have hb2 := ht.blk
  obtain ⟨_, _, c2, _⟩ := tree_cells ht
  have f2 := free_block hb2 2
  rw [hg.tb] at c2 f2
  obtain ⟨tp, htp⟩ : ∃ v, v = A1.top := ⟨_, rfl⟩
  rw [← htp] at c2
  have hset := set_block hb2 2 (pt nb)
  have hf3 : Fr [A1.tb] w2 (w2.setCell ⟨A1.tb, 2, none⟩ (pt nb)) := (Fr.refl _ w2).setCell (Or.inl (by simp)) _
  have hap := ht.apart
  have hfin : ∃ A', TreeAt (w2.setCell ⟨A1.tb, 2, none⟩ (pt nb)) A' (Tr.new ms) ∧ A'.tb = A.tb ∧ A'.mb = A.mb ∧ Fr A.foot w (w2.setCell ⟨A1.tb, 2, none⟩ (pt nb)) ∧ ∀ x ∈ A'.foot, x ∈ A.foot ∨ w.heap.size ≤ x := by
    have hff3 : Fr A1.foot w2 (w2.setCell ⟨A1.tb, 2, none⟩ (pt nb)) := hf3.mono (by intro k hk; simp at hk; subst hk; exact Or.inl A1.foot_in.1)
    refine ⟨{ A1 with top := pt nb }, ⟨⟨?_, ht.mem.keep hf3 (by simpa using fun e => hap.2.1 e.symm) (fun k hk => by simpa using (hap.2.2.2.1 k hk).1), ownsRow_fr hf3 ht.row (fun k hk => by simpa using (hap.2.2.2.2.1 k hk).1), ht.nlen, fun p b hp => ht.nodK hff3 (ht.nods p b hp), ht.map.keep hf3 (by simpa using fun e => hap.1 e.symm), ht.wlen, fun i b hb => ht.wkK hff3 (ht.wks i b hb)⟩, ⟨by simp [Tr.new, Tr.join, Tr.none], ?_⟩, ?_⟩, hg.tb, hg.mb, ?_, fun x hx => (hg.foot x hx).imp id (fun h => Nat.le_trans HFA.out.size h)⟩
    · have e5 : (Tr.new ms).ws.length = ((Tr.none ms).join ⟨false, true, ⟨#[]⟩, 0, 0⟩ ⟨false, true, ⟨#[]⟩, 0, 0⟩).ws.length := rfl
      unfold treeV at hset ⊢
      rw [e5]
      simpa using hset
    · show 3 ≤ (ms.grow 3).c.length
      unfold MS.grow
      rw [if_pos (by unfold MS.growOk; have := HM.out; simp; omega)]
      simp
    · rw [hnb]; rfl
    · exact ((HFA.out.mono (by simp) : Fr A.foot w wa).trans hf (fun x hx => Or.inl hx)).trans hf3 (fun x hx => by simp at hx; subst hx; rw [hg.tb]; exact Or.inl A.foot_in.1)
  rw [hg.tb] at hfin
  have HFIN := Lib.hid hfin
  clear hfin ht hf hg hl hnb e0 hb2 htp hset hf3 hap y0 y1 y2 y3 y4 y5
  go_wp2
  go_ret
  exact ⟨rfl, HFIN.out⟩
set_option maxHeartbeats 4000000 in
theorem bt_New (mb : Nat) (mv : Value) (ms : MS) (w : World) (h : MemAt w mb mv ms) (hm : ms.c.length ≤ 65533) :
    Calls Try.prog 5 #[pt mb] w fun e w' => ∃ A, e = .returned (pt A.tb) ∧ TreeAt w' A (Tr.new ms) ∧ A.mb = mb ∧ Fr (MemAt.foot mb mv) w w' ∧ ∀ x ∈ A.foot, x ∈ MemAt.foot mb mv ∨ w.heap.size ≤ x := by
  obtain ⟨wa, hwa⟩ : ∃ wa, wa = (w.alloc (.map #[] 0)).alloc (.cells #[pt mb, .slice none 0 0, .pointer none, .map (some w.heap.size), .int .i64 0] 49) := ⟨_, rfl⟩
  have hfa : Fr [] w wa := by rw [hwa]; exact ((Fr.refl [] w).alloc _).alloc _
  obtain ⟨A, hA⟩ : ∃ A : TA, A = ⟨w.heap.size + 1, w.heap.size, mb, mv, .slice none 0 0, [], [], .pointer none⟩ := ⟨_, rfl⟩
  have hb : TreeB wa A (Tr.none ms) := by
    rw [hA]
    refine ⟨?_, h.keep hfa (by simp) (by simp), ⟨rfl, Or.inl ⟨rfl, rfl⟩⟩, rfl, (fun p b hp => by cases hp), ?_, rfl, (fun i b hb => by cases hb)⟩
    · rw [hwa]; exact new_block2 w _ _
    · have h1 := (MapG.made Try.prog 3 intD ptOk w)
      have h2 : MapG Try.prog 3 intD ptOk wa w.heap.size 0 (fun _ => none) := by rw [hwa]; exact h1.keep ((Fr.refl [] _).alloc _) (by simp)
      refine h2.eq (fun z _ => ?_)
      unfold worksG Tr.none
      simp
  have htb : A.tb = w.heap.size + 1 := by rw [hA]
  have HP := bt_plant A ms wa hb hm
  have hfin : ∀ w', (∃ A', TreeAt w' A' (Tr.new ms) ∧ A'.tb = A.tb ∧ A'.mb = A.mb ∧ Fr A.foot wa w' ∧ ∀ x ∈ A'.foot, x ∈ A.foot ∨ wa.heap.size ≤ x) → ∃ A', Ending.returned (pt (w.heap.size + 1)) = .returned (pt A'.tb) ∧ TreeAt w' A' (Tr.new ms) ∧ A'.mb = mb ∧ Fr (MemAt.foot mb mv) w w' ∧ ∀ x ∈ A'.foot, x ∈ MemAt.foot mb mv ∨ w.heap.size ≤ x := by
    rintro w' ⟨A', k1, k2, k3, k4, k5⟩
    have hfoot : ∀ x ∈ A.foot, x ∈ MemAt.foot mb mv ∨ w.heap.size ≤ x := by
      intro x hx
      rw [hA] at hx
      simp [TA.foot, Value.ownBlock] at hx
      rcases hx with rfl | rfl | hx
      · exact Or.inr (by omega)
      · exact Or.inr (Nat.le_refl _)
      · exact Or.inl hx
    exact ⟨A', by rw [k2, htb], k1, by rw [k3, hA], (hfa.mono (by simp)).trans k4 hfoot, fun x hx => (k5 x hx).elim (hfoot x) (fun h => Or.inr (Nat.le_trans hfa.size h))⟩
  rw [htb] at HP hfin
  have HFIN := Lib.hid hfin
  have HPL := Lib.hid HP
  have HWA := Lib.hid hwa
  clear h hm hwa hfa hA hb htb HP hfin
  have hmm := @run_makeMap Try.prog
  go_enter Try.func5, Try.ntmps5
  go_upto_region 2 with fail
  rw [← HWA.out]
  go_wp2_with (go_at_call 16; refine HPL.out.mono ?_; rintro e w2 ⟨rfl, hA'⟩; have HA' := Lib.hid hA'; clear hA')
  go_ret
  exact HFIN.out _ HA'.out
end Go.Proofs.Ytmhiolhgofackaa
namespace Go.Proofs.Ytmhiolhgofackaa
open Go.RowKit
set_option linter.unusedVariables false
set_option linter.unusedSimpArgs false

/-- what an ended call leaves of the counts -/
structure Grown (t T : Tr) : Prop where
  n1 : T.ms.n ≤ t.ms.n + 70000
  ns : T.ns.length ≤ t.ns.length + 3
  ws : T.ws.length ≤ t.ws.length + 1
structure TreeFit (t : Tr) : Prop where
  n : t.ms.n ≤ 900000000
  ns : t.ns.length ≤ 59000
  ws : t.ws.length ≤ 700000000
theorem TreeFit.room {t : Tr} {L : PT} (h : TreeFit t) (hq : Quiet t L) (k : Nat) (hk : k ≤ 90000) : Room t k := ⟨by rw [hq.len]; have := h.ns; omega, by have := h.ns; omega, by have := h.n; omega, by have := h.ws; omega⟩
theorem Quiet.depth {t : Tr} {L : PT} (hq : Quiet t L) : L.depth ≤ t.ns.length := by
  have h1 := PT.depth_le L
  have h2 : (PT.node 2 L (.leaf 1)).inners.length ≤ t.ns.length := nodup_len hq.nodup (fun x hx => (at_inners hq.at_ x hx).lt)
  simp [PT.inners] at h2
  omega
theorem SameC.toward {t t' : Tr} (h : SameC t t') (p : Nat) (k : ByteArray) : t'.toward p k = t.toward p k := by unfold Tr.toward; rw [h.nd, h.left, h.right]
theorem Quiet.top2 {t : Tr} {L : PT} (hq : Quiet t L) (k : ByteArray) : (t.nd 2).above k = true ∧ t.toward 2 k = t.left 2 ∧ t.kid (t.toward 2 k) = L.pl ∧ InOk t 2 ∧ At t L ∧ Sides t k [topF] := by
  have h1 : (t.nd 2).above k = true := by unfold Nd.above; rw [hq.top]; rfl
  obtain ⟨a1, a2, a3, a4, a5⟩ := hq.at_
  refine ⟨h1, by unfold Tr.toward; rw [if_pos h1], ?_, a1, a4, fun f hf => ?_⟩
  · unfold Tr.toward; rw [if_pos h1]; exact a2
  · simp only [List.mem_singleton] at hf; subst hf; exact h1.symm
/-- where a key leads -/
def look (t : Tr) (k : ByteArray) : PT → Nat
  | .leaf p => p
  | .node p l r => if (t.nd p).above k then look t k l else look t k r
theorem goC_look (t : Tr) (m : Md) (hm : m ≠ .left) : ∀ (T : PT) (c : Cl), (goC t m c T).2 = look t c.key T := by
  intro T
  induction T with
  | leaf p => intro c; rfl
  | node p l r ihl ihr =>
    intro c
    have hgl : goesL t m p c.key = (t.nd p).above c.key := by cases m <;> first | rfl | exact absurd rfl hm
    have hk := (Cl.toward_key t c p m).1
    show (if goesL t m p c.key then goC t m (c.toward t p m).1 l else goC t m (c.toward t p m).1 r).2 = if (t.nd p).above c.key then look t c.key l else look t c.key r
    rw [hgl]
    split
    · rw [ihl, hk]
    · rw [ihr, hk]
theorem look_at {t : Tr} (k : ByteArray) : ∀ {T : PT}, At t T → LfOk t (look t k T)
  | .leaf p, h => h
  | .node p l r, ⟨_, _, _, h4, h5⟩ => by
    show LfOk t (if _ then _ else _)
    split
    · exact look_at k h4
    · exact look_at k h5
theorem goC_kd (t : Tr) (m : Md) : ∀ (T : PT) (c : Cl), (goC t m c T).1.kd = c.kd ∧ (goC t m c T).1.key = c.key ∧ (goC t m c T).1.val = c.val ∧ (goC t m c T).1.full = c.full ∧ (goC t m c T).1.path.length ≤ c.path.length + T.depth := by
  intro T
  induction T with
  | leaf p => intro c; exact ⟨rfl, rfl, rfl, rfl, Nat.le_add_right _ _⟩
  | node p l r ihl ihr =>
    intro c
    obtain ⟨k1, k2, k3, k4, _, k5⟩ := Cl.toward_key t c p m
    have hd : PT.depth (.node p l r) = max l.depth r.depth + 1 := rfl
    show (if goesL t m p c.key then goC t m (c.toward t p m).1 l else goC t m (c.toward t p m).1 r).1.kd = _ ∧ _
    cases hg : goesL t m p c.key
    · obtain ⟨a, b, d, e, f⟩ := ihr (c.toward t p m).1
      have hgo : goC t m c (.node p l r) = goC t m (c.toward t p m).1 r := by
        show (if goesL t m p c.key then _ else _) = _
        rw [hg, if_neg Bool.false_ne_true]
      rw [hgo]
      simp only [Bool.false_eq_true, if_false]
      exact ⟨a.trans k2, b.trans k1, d.trans k3, e.trans k4, by omega⟩
    · obtain ⟨a, b, d, e, f⟩ := ihl (c.toward t p m).1
      have hgo : goC t m c (.node p l r) = goC t m (c.toward t p m).1 l := by
        show (if goesL t m p c.key then _ else _) = _
        rw [hg, if_pos rfl]
      rw [hgo]
      simp only [if_true]
      exact ⟨a.trans k2, b.trans k1, d.trans k3, e.trans k4, by omega⟩
/-- Find -/
theorem op_fnd {t : Tr} {L : PT} (hq : Quiet t L) (hf : TreeFit t) (k : ByteArray) :
    ∃ n T C, n ≤ L.depth + 12 ∧ OkRun n t (Cl.new .fnd k 0) (.desc (t.toward 2 k) .find) T C ∧ SameC t T ∧ Grown t T ∧ C.ans = (if (t.nd (look t k L)).has k then ⟨true, k, (t.nd (look t k L)).val, 0⟩ else ⟨false, k, 0, 0⟩) := by
  obtain ⟨h1, h2, h3, h4, h5, h6⟩ := hq.top2 k
  have hdep := hq.depth
  have hlk := look_at (t := t) k h5
  obtain ⟨g1, g2, g3, g4, g5⟩ := goC_kd t .find L (Cl.new .fnd k 0)
  have hgo := goC_look t .find (by intro e; cases e) L (Cl.new .fnd k 0)
  have hnf := hf.ns
  obtain ⟨T, s1, s2, s3⟩ := desc_run .find L t (Cl.new .fnd k 0) (t.toward 2 k) 1 h5 h3 (hf.room hq _ (by omega)) (by show 0 + L.depth ≤ _; omega) trivial (by
    refine ⟨by rw [hgo]; exact hlk.1, by have : (Cl.new .fnd k 0).path.length = 0 := rfl; omega, (fun e => by rw [g1] at e; cases e), (fun e => by rw [g1] at e; cases e), (fun e => by rw [g1] at e; cases e)⟩)
  obtain ⟨c', hc'⟩ : ∃ c', c' = (goC t .find (Cl.new .fnd k 0) L).1 := ⟨_, rfl⟩
  rw [← hc'] at s3 g1 g2
  rw [hgo] at s3
  have hkey : (Cl.new .fnd k 0).key = k := rfl
  rw [hkey] at s3 g2
  have hleaf : c'.leaf t (look t k L) .find = if (t.nd (look t k L)).has k then (c'.tell ⟨true, k, (t.nd (look t k L)).val, 0⟩, none) else (c'.tell ⟨false, k, 0, 0⟩, none) := by unfold Cl.leaf; rw [g1, g2]; rfl
  refine ⟨_, T, c'.tell (if (t.nd (look t k L)).has k then ⟨true, k, (t.nd (look t k L)).val, 0⟩ else ⟨false, k, 0, 0⟩), by omega, s3 0 _ _ ?_, s1, ⟨by omega, by rw [s1.ns]; omega, by rw [s1.ws]; omega⟩, rfl⟩
  · rw [hleaf]
    split
    · exact ⟨rfl, rfl⟩
    · exact ⟨rfl, rfl⟩
/-- Insert -/
theorem op_ins {t : Tr} {L : PT} (hq : Quiet t L) (hf : TreeFit t) (k : ByteArray) (v : Int) :
    ∃ n T C, n ≤ L.depth + 12 ∧ OkRun n t (Cl.new .ins k v) .beg T C ∧ Grown t T ∧
      if (t.nd (look t k L)).has k then SameC t T ∧ C.ans = ⟨false, k, (t.nd (look t k L)).val, 0⟩
      else C.ans = ⟨true, k, v, 0⟩ ∧ ∃ t3 f D L', SameC t t3 ∧ T = insT t3 f (look t k L) k v ∧ Sides t k (f :: D) ∧ (f :: D).getLast? = some topF ∧ plug (f :: D) (.leaf (look t k L)) = .node 2 L (.leaf 1) ∧
        plug (f :: D) (.node (t.ns.length + 2) (.leaf t.ns.length) (.leaf (t.ns.length + 1))) = .node 2 L' (.leaf 1) ∧ Quiet T L' := by
  obtain ⟨h1, h2, h3, h4, h5, h6⟩ := hq.top2 k
  have hdep := hq.depth
  have hlk := look_at (t := t) k h5
  have hnf := hf.ns
  have hroom : t.room = true := by unfold Tr.room; apply decide_eq_true; rw [hq.len]; omega
  obtain ⟨c1, hc1⟩ : ∃ c1 : Cl, c1 = { Cl.new .ins k v with full := !t.room, path := [⟨2, false, 0⟩] } := ⟨_, rfl⟩
  have hfull : c1.full = false := by rw [hc1]; show (!t.room) = false; rw [hroom]; rfl
  have hkey : c1.key = k := by rw [hc1]; rfl
  have hval : c1.val = v := by rw [hc1]; rfl
  have hkd : c1.kd = .ins := by rw [hc1]; rfl
  have hov : c1.over = none := by rw [hc1]; rfl
  have hpath : c1.path = pathOf [topF] := by rw [hc1]; rfl
  obtain ⟨f, D, l, hgo, hpl, hsd, htp, _⟩ := goC_way t L topF [] c1 hpath (by rw [hkey]; exact h6)
  have hl : l = look t k L := by have := goC_look t .way (by intro e; cases e) L c1; rw [hgo, hkey] at this; exact this
  have hplug : plug (f :: D) (.leaf l) = .node 2 L (.leaf 1) := by rw [hpl]; rfl
  have htop : (f :: D).getLast? = some topF := by rw [htp]; rfl
  obtain ⟨c2, hc2⟩ : ∃ c2 : Cl, c2 = { c1 with path := pathOf (f :: D) } := ⟨_, rfl⟩
  rw [← hc2] at hgo
  have k2 : c2.kd = .ins ∧ c2.key = k ∧ c2.val = v ∧ c2.full = false ∧ c2.over = none ∧ c2.path = pathOf (f :: D) := by rw [hc2]; exact ⟨hkd, hkey, hval, hfull, hov, rfl⟩
  have hg := goC_kd t .way L c1
  rw [hgo] at hg
  have hp1 : c1.path.length = 1 := by rw [hpath]; rfl
  have hok : LeafOk t (goC t .way c1 L).1 (goC t .way c1 L).2 .way := by
    rw [hgo]
    refine ⟨by dsimp only; rw [hl]; exact hlk.1, by have := hg.2.2.2.2; dsimp only at this ⊢; omega, fun _ => by rw [k2.2.2.2.2.2]; simp [pathOf], (fun e => by rw [k2.1] at e; cases e), (fun e => by rw [k2.1] at e; cases e)⟩
  have hbr : t.kid (t.toward 2 k) = L.pl := h3
  obtain ⟨T1, s1, n1, run1⟩ := desc_run .way L t c1 (t.toward 2 k) 20 h5 hbr (hf.room hq _ (by omega)) (by omega) (by rw [hkd]; trivial) hok
  rw [hgo] at run1
  have hbeg : ∀ n T C, OkRun n t c1 (.desc (t.toward 2 k) .way) T C → OkRun n t (Cl.new .ins k v) .beg T C := by
    intro n T C h
    cases n with
    | zero => exact h.elim
    | succ n =>
      obtain ⟨⟨q1, q2⟩, q3, q4⟩ := h
      refine ⟨⟨rfl, h4.nd (by omega), ?_⟩, (hf.room hq 0 (by omega)).small (by show 0 ≤ _; omega), ?_⟩
      · rw [← hc1]; exact q2
      · have e : stepP t (Cl.new .ins k v) .beg = stepP t c1 (.desc (t.toward 2 k) .way) := by
          show (t.ask (t.toward 2 k).cell, ({ Cl.new .ins k v with full := !t.room, path := [⟨2, false, 0⟩] } : Cl).desc t (t.kid (t.toward 2 k)) .way) = (t.ask (t.toward 2 k).cell, c1.desc (t.ask (t.toward 2 k).cell) (t.kid (t.toward 2 k)) .way)
          rw [← hc1]
          have hs := SameC.ask t (t.toward 2 k).cell
          unfold Cl.desc
          rw [hs.nd, leaf_same hs, Cl.toward_same hs]
          have : (c1.toward (t.ask (t.toward 2 k).cell) (t.kid (t.toward 2 k)) .way).2 = (c1.toward t (t.kid (t.toward 2 k)) .way).2 := hs.toward _ _
          rw [this]
        rw [e]; exact q4
  have hleaf : c2.leaf t l .way = if (t.nd l).has k then (c2.tell ⟨false, k, (t.nd l).val, 0⟩, none) else (c2, some .look) := by
    have hup := up_pathOf k2.2.2.2.2.2
    unfold Cl.leaf; rw [k2.1]; dsimp only; rw [k2.2.1, k2.2.2.2.1, hup]; rfl
  cases hh : (t.nd l).has k
  · rw [hh, if_neg Bool.false_ne_true] at hleaf
    have hq1 := s1.quiet hq
    have hroom1 : T1.room = true := by unfold Tr.room; rw [s1.c]; exact hroom
    have hnd1 : (T1.nd l).has c2.key = false := by rw [s1.nd, k2.2.1]; exact hh
    have hsd1 : Sides T1 c2.key (f :: D) := fun x hx => by rw [s1.nd, k2.2.1]; rw [hkey] at hsd; exact hsd x hx
    have hr1 : Room T1 10 := by
      have := hf.room hq (10 + (L.depth + 1)) (by omega)
      exact Room.same this s1 n1
    obtain ⟨t3, cz, s3, n3, hans, run3⟩ := ins_steps hq1 hplug htop k2.1 k2.2.2.2.2.2 k2.2.2.2.1 k2.2.2.2.2.1 hsd1 hnd1 hr1 hroom1 (by rw [s1.ns]; omega)
    rw [k2.2.1, k2.2.2.1] at run3 hans
    have s13 := s1.trans s3
    have hq3 := s13.quiet hq
    have hside3 : f.lt = (t3.nd f.p).above k := by rw [s13.nd]; rw [hkey] at hsd; exact hsd f (by simp)
    have hroom3 : t3.room = true := by unfold Tr.room; rw [s13.c]; exact hroom
    obtain ⟨cat, cns, clen, cisu, cn, cws, clive⟩ := ins_cells hq3 hplug htop k v hside3 hroom3
    obtain ⟨L', hq6, hp6, hm6⟩ := ins_quiet hq3 hplug htop k v hside3 hroom3 (by rw [s13.ns]; omega)
    rw [s13.ns] at hp6
    refine ⟨_, insT t3 f l k v, cz, by omega, hbeg _ _ _ (run1 5 _ _ ?_), ⟨by omega, by rw [cns, s13.ns]; simp, by rw [cws, s13.ws]; simp⟩, ?_⟩
    · rw [hleaf]; exact run3
    · rw [← hl, hh, if_neg Bool.false_ne_true]
      exact ⟨hans, t3, f, D, L', s13, rfl, by rw [hkey] at hsd; exact hsd, htop, hplug, hp6, hq6⟩
  · rw [hh, if_pos rfl] at hleaf
    refine ⟨_, T1, c2.tell ⟨false, k, (t.nd l).val, 0⟩, by omega, hbeg _ _ _ (run1 0 _ _ ?_), ⟨by omega, by rw [s1.ns]; omega, by rw [s1.ws]; omega⟩, ?_⟩
    · rw [hleaf]; exact ⟨rfl, rfl⟩
    · rw [← hl, hh, if_pos rfl]
      exact ⟨s1, rfl⟩
end Go.Proofs.Ytmhiolhgofackaa
namespace Go.Proofs.Ytmhiolhgofackaa
open Go.RowKit
set_option linter.unusedVariables false
set_option linter.unusedSimpArgs false

theorem cut_pathOf {c : Cl} {f : Fm} {D : List Fm} (h : c.path = pathOf (f :: D)) : (c.cut 1).path = pathOf D := by
  unfold Cl.cut
  dsimp only
  rw [h]
  have : pathOf (f :: D) = pathOf D ++ [⟨f.p, false, 0⟩] := by simp [pathOf]
  rw [this]
  simp
theorem op_rem {t : Tr} {L : PT} (hq : Quiet t L) (hf : TreeFit t) (k : ByteArray) :
    ∃ n T C, n ≤ L.depth + 12 ∧ OkRun n t (Cl.new .rem k 0).start (.desc (t.toward 2 k) .way) T C ∧ Grown t T ∧
      if (t.nd (look t k L)).has k then C.ans = ⟨true, k, (t.nd (look t k L)).val, 0⟩ ∧ ∃ t3 f g D L', SameC t t3 ∧ T = remT t3 f g k ∧ Sides t k (f :: g :: D) ∧ (f :: g :: D).getLast? = some topF ∧ plug (f :: g :: D) (.leaf (look t k L)) = .node 2 L (.leaf 1) ∧
        plug (g :: D) f.sib = .node 2 L' (.leaf 1) ∧ Quiet T L'
      else SameC t T ∧ C.ans = ⟨false, k, 0, 0⟩ := by
  obtain ⟨h1, h2, h3, h4, h5, h6⟩ := hq.top2 k
  have hdep := hq.depth
  have hlk := look_at (t := t) k h5
  have hnf := hf.ns
  obtain ⟨c1, hc1⟩ : ∃ c1 : Cl, c1 = (Cl.new .rem k 0).start := ⟨_, rfl⟩
  have hkey : c1.key = k := by rw [hc1]; rfl
  have hkd : c1.kd = .rem := by rw [hc1]; rfl
  have hov : c1.over = none := by rw [hc1]; rfl
  have hpath : c1.path = pathOf [topF] := by rw [hc1]; rfl
  rw [← hc1]
  obtain ⟨f, D, l, hgo, hpl, hsd, htp, _⟩ := goC_way t L topF [] c1 hpath (by rw [hkey]; exact h6)
  have hl : l = look t k L := by have := goC_look t .way (by intro e; cases e) L c1; rw [hgo, hkey] at this; exact this
  have hplug : plug (f :: D) (.leaf l) = .node 2 L (.leaf 1) := by rw [hpl]; rfl
  have htop : (f :: D).getLast? = some topF := by rw [htp]; rfl
  obtain ⟨c2, hc2⟩ : ∃ c2 : Cl, c2 = { c1 with path := pathOf (f :: D) } := ⟨_, rfl⟩
  rw [← hc2] at hgo
  have k2 : c2.kd = .rem ∧ c2.key = k ∧ c2.over = none ∧ c2.path = pathOf (f :: D) := by rw [hc2]; exact ⟨hkd, hkey, hov, rfl⟩
  have hg := goC_kd t .way L c1
  rw [hgo] at hg
  have hp1 : c1.path.length = 1 := by rw [hpath]; rfl
  have hD : (t.nd l).has k = true → D ≠ [] := by
    intro hh e
    subst e
    simp at htop
    subst htop
    simp only [plug, Fm.fill, topF, if_true, PT.node.injEq, true_and, and_true] at hplug
    have := hq.last
    rw [← hplug] at this
    unfold Nd.has at hh
    rw [show (t.nd l).fin = true from this] at hh
    simp at hh
  have hok : LeafOk t (goC t .way c1 L).1 (goC t .way c1 L).2 .way := by
    rw [hgo]
    refine ⟨by dsimp only; rw [hl]; exact hlk.1, by have := hg.2.2.2.2; dsimp only at this ⊢; omega, (fun e => by rw [k2.1] at e; cases e), fun _ hh => ?_, (fun e => by rw [k2.1] at e; cases e)⟩
    rw [k2.2.1] at hh
    have := List.length_pos_iff.2 (hD hh)
    rw [k2.2.2.2, pathOf_len]
    simp only [List.length_cons]; omega
  obtain ⟨T1, s1, n1, run1⟩ := desc_run .way L t c1 (t.toward 2 k) 30 h5 h3 (hf.room hq _ (by omega)) (by omega) (by rw [hkd]; trivial) hok
  rw [hgo] at run1
  cases hh : (t.nd l).has k
  · have hleaf : c2.leaf t l .way = (c2.tell ⟨false, k, 0, 0⟩, none) := by
      unfold Cl.leaf; rw [k2.1]; dsimp only; rw [k2.2.1, hh, if_neg Bool.false_ne_true]
    refine ⟨_, T1, c2.tell ⟨false, k, 0, 0⟩, by omega, run1 0 _ _ ?_, ⟨by omega, by rw [s1.ns]; omega, by rw [s1.ws]; omega⟩, ?_⟩
    · dsimp only; rw [hleaf]; exact ⟨rfl, rfl⟩
    · rw [← hl, hh, if_neg Bool.false_ne_true]; exact ⟨s1, rfl⟩
  · obtain ⟨g, D', rfl⟩ : ∃ g D', D = g :: D' := by
      cases D with
      | nil => exact absurd rfl (hD hh)
      | cons g D' => exact ⟨g, D', rfl⟩
    have hleaf : c2.leaf t l .way = (c2.cut 1, some .look) := by
      have hup := up1_pathOf k2.2.2.2
      unfold Cl.leaf; rw [k2.1]; dsimp only; rw [k2.2.1, hh, if_pos rfl, hup]; rfl
    have hq1 := s1.quiet hq
    have hcut := cut_pathOf k2.2.2.2
    have hr1 : Room T1 20 := Room.same (hf.room hq (20 + (L.depth + 1)) (by omega)) s1 n1
    have hsd1 : Sides T1 (c2.cut 1).key (f :: g :: D') := fun x hx => by rw [s1.nd]; show _ = (t.nd x.p).above c2.key; rw [k2.2.1]; rw [hkey] at hsd; exact hsd x hx
    have hh1 : (T1.nd l).has (c2.cut 1).key = true := by rw [s1.nd]; show (t.nd l).has c2.key = true; rw [k2.2.1]; exact hh
    obtain ⟨t3, cz, s3, n3, hans, run3⟩ := rem_steps hq1 hplug htop (c := c2.cut 1) k2.1 hcut k2.2.2.1 hsd1 hh1 hr1
    have hck : (c2.cut 1).key = k := k2.2.1
    rw [hck] at run3 hans
    have s13 := s1.trans s3
    have hq3 := s13.quiet hq
    obtain ⟨cat, cns, clen, cisu, cn, cws, clive⟩ := rem_cells hq3 hplug htop k
    obtain ⟨L', hq6, hp6, hm6⟩ := rem_quiet hq3 hplug htop k (by rw [s13.nd]; exact hh)
    refine ⟨_, remT t3 f g k, cz, by omega, run1 9 _ _ ?_, ⟨by omega, by rw [cns, s13.ns]; omega, by rw [cws, s13.ws]; simp⟩, ?_⟩
    · dsimp only; rw [hleaf]; exact run3
    · rw [← hl, hh, if_pos rfl]
      rw [s1.nd] at hans
      exact ⟨hans, t3, f, g, D', L', s13, rfl, by rw [hkey] at hsd; exact hsd, htop, hplug, hp6, hq6⟩
end Go.Proofs.Ytmhiolhgofackaa
namespace Go.Proofs.Ytmhiolhgofackaa
open Go.RowKit
set_option linter.unusedVariables false
set_option linter.unusedSimpArgs false

/-- a leaf's key is on this side of a node; an end leaf is to the left of end nodes alone -/
def SideOk (t : Tr) (p : Nat) (b : Bool) (q : Nat) : Prop := ((t.nd q).fin = false → (t.nd p).above (t.nd q).key = b) ∧ ((t.nd q).fin = true → b = true → (t.nd p).fin = true)
def Ord (t : Tr) : PT → Prop
  | .leaf _ => True
  | .node p l r => (∀ q ∈ l.leaves, SideOk t p true q) ∧ (∀ q ∈ r.leaves, SideOk t p false q) ∧ Ord t l ∧ Ord t r
def CxOrd (t : Tr) : List Fm → Prop
  | [] => True
  | f :: C => (∀ q ∈ f.sib.leaves, SideOk t f.p (!f.lt) q) ∧ Ord t f.sib ∧ (∀ g ∈ C, ∀ q ∈ f.sib.leaves, SideOk t g.p g.lt q) ∧ CxOrd t C
theorem ord_fill {t : Tr} {f : Fm} {T : PT} : Ord t (f.fill T) ↔ (∀ q ∈ T.leaves, SideOk t f.p f.lt q) ∧ (∀ q ∈ f.sib.leaves, SideOk t f.p (!f.lt) q) ∧ Ord t T ∧ Ord t f.sib := by
  unfold Fm.fill
  cases f.lt
  · exact ⟨fun ⟨h1, h2, h3, h4⟩ => ⟨h2, h1, h4, h3⟩, fun ⟨h2, h1, h4, h3⟩ => ⟨h1, h2, h3, h4⟩⟩
  · exact Iff.rfl
theorem fill_leaves (f : Fm) (T : PT) (q : Nat) : q ∈ (f.fill T).leaves ↔ q ∈ T.leaves ∨ q ∈ f.sib.leaves := by
  unfold Fm.fill
  cases f.lt
  · simp only [Bool.false_eq_true, if_false, PT.leaves, List.mem_append]; exact Or.comm
  · simp only [if_true, PT.leaves, List.mem_append]
theorem ord_plug {t : Tr} : ∀ {C : List Fm} {T : PT}, Ord t (plug C T) ↔ CxOrd t C ∧ Ord t T ∧ ∀ f ∈ C, ∀ q ∈ T.leaves, SideOk t f.p f.lt q
  | [], T => ⟨fun h => ⟨trivial, h, by simp⟩, fun h => h.2.1⟩
  | f :: C, T => by
    show Ord t (plug C (f.fill T)) ↔ _
    rw [ord_plug, ord_fill]
    constructor
    · rintro ⟨h1, ⟨h2, h3, h4, h5⟩, h6⟩
      refine ⟨⟨h3, h5, fun g hg q hq => h6 g hg q ((fill_leaves f T q).2 (Or.inr hq)), h1⟩, h4, fun g hg q hq => ?_⟩
      rcases List.mem_cons.1 hg with rfl | hg
      · exact h2 q hq
      · exact h6 g hg q ((fill_leaves f T q).2 (Or.inl hq))
    · rintro ⟨⟨h3, h5, h6, h1⟩, h4, h7⟩
      refine ⟨h1, ⟨h7 f (by simp), h3, h4, h5⟩, fun g hg q hq => ?_⟩
      rcases (fill_leaves f T q).1 hq with hq | hq
      · exact h7 g (List.mem_cons_of_mem _ hg) q hq
      · exact h6 g hg q hq
/-- what a tree holds at a key -/
def cont (t : Tr) (L : PT) (k : ByteArray) : Option Int := if (t.nd (look t k L)).has k then some (t.nd (look t k L)).val else none
theorem look_fill (t : Tr) (k : ByteArray) (f : Fm) (T : PT) : look t k (f.fill T) = if (t.nd f.p).above k = f.lt then look t k T else look t k f.sib := by
  unfold Fm.fill
  cases f.lt
  · show (if (t.nd f.p).above k then look t k f.sib else look t k T) = _
    cases (t.nd f.p).above k <;> rfl
  · show (if (t.nd f.p).above k then look t k T else look t k f.sib) = _
    cases (t.nd f.p).above k <;> rfl
theorem look_plug (t : Tr) (k : ByteArray) : ∀ (C : List Fm) (T : PT), (Sides t k C → look t k (plug C T) = look t k T) ∧ (¬ Sides t k C → ∀ T', look t k (plug C T) = look t k (plug C T'))
  | [], T => ⟨fun _ => rfl, fun h => absurd (fun f hf => by cases hf) h⟩
  | f :: C, T => by
    obtain ⟨h1, h2⟩ := look_plug t k C (f.fill T)
    refine ⟨fun hs => ?_, fun hs T' => ?_⟩
    · show look t k (plug C (f.fill T)) = _
      rw [h1 (fun g hg => hs g (List.mem_cons_of_mem _ hg)), look_fill, if_pos (hs f (by simp)).symm]
    · show look t k (plug C (f.fill T)) = look t k (plug C (f.fill T'))
      by_cases hC : Sides t k C
      · have h3 := (look_plug t k C (f.fill T')).1 hC
        rw [h1 hC, h3, look_fill, look_fill]
        have hf : ¬ (t.nd f.p).above k = f.lt := fun e => hs (fun g hg => by
          rcases List.mem_cons.1 hg with rfl | hg
          · exact e.symm
          · exact hC g hg)
        rw [if_neg hf, if_neg hf]
      · exact h2 hC _
theorem look_leaf (t : Tr) (k : ByteArray) : ∀ T : PT, look t k T ∈ T.leaves
  | .leaf p => by simp [look, PT.leaves]
  | .node p l r => by
    show (if _ then _ else _) ∈ l.leaves ++ r.leaves
    split
    · exact List.mem_append_left _ (look_leaf t k l)
    · exact List.mem_append_right _ (look_leaf t k r)
theorem has_iff {n : Nd} {k : ByteArray} : n.has k = true ↔ n.fin = false ∧ n.key = k := by
  unfold Nd.has
  rw [Bool.and_eq_true, Bool.not_eq_true', beq_iff_eq]
  exact ⟨fun ⟨a, b⟩ => ⟨a, (bs_inj b).symm⟩, fun ⟨a, b⟩ => ⟨a, by rw [b]⟩⟩
/-- the same nodes -/
theorem ord_nd {t t' : Tr} : ∀ {T : PT}, (∀ p, p ∈ T.inners ∨ p ∈ T.leaves → t'.nd p = t.nd p) → Ord t T → Ord t' T
  | .leaf _, _, _ => trivial
  | .node p l r, h, ⟨h1, h2, h3, h4⟩ => by
    have hp := h p (Or.inl (by simp [PT.inners]))
    refine ⟨fun q hq => ?_, fun q hq => ?_, ord_nd (fun x hx => h x (hx.imp (fun hx => by simp [PT.inners, hx]) (fun hx => by simp [PT.leaves, hx]))) h3, ord_nd (fun x hx => h x (hx.imp (fun hx => by simp [PT.inners, hx]) (fun hx => by simp [PT.leaves, hx]))) h4⟩
    · unfold SideOk; rw [hp, h q (Or.inr (by simp [PT.leaves, hq]))]; exact h1 q hq
    · unfold SideOk; rw [hp, h q (Or.inr (by simp [PT.leaves, hq]))]; exact h2 q hq
theorem look_nd {t t' : Tr} (k : ByteArray) : ∀ {T : PT}, (∀ p ∈ T.inners, t'.nd p = t.nd p) → look t' k T = look t k T
  | .leaf _, _ => rfl
  | .node p l r, h => by
    show (if (t'.nd p).above k then _ else _) = (if (t.nd p).above k then _ else _)
    rw [h p (by simp [PT.inners]), look_nd k (fun x hx => h x (by simp [PT.inners, hx])), look_nd k (fun x hx => h x (by simp [PT.inners, hx]))]
theorem at_leaves {t : Tr} : ∀ {T : PT}, At t T → ∀ q ∈ T.leaves, LfOk t q
  | .leaf p, h, q, hq => by simp [PT.leaves] at hq; subst hq; exact h
  | .node p l r, ⟨_, _, _, h4, h5⟩, q, hq => by
    rcases List.mem_append.1 hq with hq | hq
    · exact at_leaves h4 q hq
    · exact at_leaves h5 q hq
/-- a Delete's -/
theorem rem_cont {t T : Tr} {f g : Fm} {D : List Fm} {l : Nat} {L L' : PT} {k : ByteArray} (hnd : ∀ p, T.nd p = t.nd p) (hp : plug (f :: g :: D) (.leaf l) = .node 2 L (.leaf 1)) (hp' : plug (g :: D) f.sib = .node 2 L' (.leaf 1)) (hs : Sides t k (f :: g :: D)) (ho : Ord t (.node 2 L (.leaf 1))) (hh : (t.nd l).has k = true) (htop : ∀ k, (t.nd 2).above k = true) :
    Ord T (.node 2 L' (.leaf 1)) ∧ ∀ k', cont T L' k' = if k' = k then none else cont t L k' := by
  have ho' := ho
  rw [← hp, ord_plug] at ho'
  obtain ⟨⟨c1, c2, c3, c4⟩, _, c5⟩ := ho'
  have hor : Ord T (.node 2 L' (.leaf 1)) := by
    refine ord_nd (fun p _ => hnd p) ?_
    rw [← hp', ord_plug]
    exact ⟨c4, c2, c3⟩
  refine ⟨hor, fun k' => ?_⟩
  have lk : ∀ (t : Tr) X k, (∀ k, (t.nd 2).above k = true) → look t k (.node 2 X (.leaf 1)) = look t k X := fun t X k h => by
    show (if (t.nd 2).above k then _ else _) = _
    rw [if_pos (h k)]
  have e1 : look T k' L' = look t k' (plug (g :: D) f.sib) := by
    rw [hp', lk t L' k' htop]
    exact look_nd k' (fun p _ => hnd p)
  have e2 : look t k' L = look t k' (plug (g :: D) (f.fill (.leaf l))) := by
    rw [← lk t L k' htop, ← hp]; rfl
  unfold cont
  rw [e1, e2, hnd]
  obtain ⟨hl1, hl2⟩ := has_iff.1 hh
  by_cases hC : Sides t k' (g :: D)
  · rw [(look_plug t k' (g :: D) _).1 hC, (look_plug t k' (g :: D) _).1 hC, look_fill]
    have hsibno : (t.nd f.p).above k' = f.lt → (t.nd (look t k' f.sib)).has k' = false := fun hab => by
      cases hx : (t.nd (look t k' f.sib)).has k'
      · rfl
      · obtain ⟨a, b⟩ := has_iff.1 hx
        have := (c1 _ (look_leaf t k' f.sib)).1 a
        rw [b, hab] at this
        cases hf : f.lt <;> rw [hf] at this <;> cases this
    by_cases hab : (t.nd f.p).above k' = f.lt
    · rw [if_pos hab, hsibno hab, if_neg Bool.false_ne_true]
      by_cases hk : k' = k
      · rw [if_pos hk]
      · rw [if_neg hk]
        show none = if (t.nd l).has k' then _ else _
        rw [if_neg (fun e => hk ((has_iff.1 e).2.symm.trans hl2))]
    · rw [if_neg hab]
      have hk : k' ≠ k := fun e => hab (by rw [e]; exact (hs f (by simp)).symm)
      rw [if_neg hk]
  · rw [(look_plug t k' (g :: D) f.sib).2 hC (f.fill (.leaf l))]
    have hk : k' ≠ k := fun e => hC (by rw [e]; exact fun x hx => hs x (List.mem_cons_of_mem _ hx))
    rw [if_neg hk]
end Go.Proofs.Ytmhiolhgofackaa
namespace Go.Proofs.Ytmhiolhgofackaa
open Go.RowKit
set_option linter.unusedVariables false
set_option linter.unusedSimpArgs false

theorem above_iff {n : Nd} {k : ByteArray} : n.above k = true ↔ n.fin = true ∨ ls k.toList n.key.toList = true := by
  unfold Nd.above ls; rw [Bool.or_eq_true]
/-- at most at one leaf -/
theorem has_one {a b : Nd} {k : ByteArray} (ha : a.has k = true) (hb : b.has k = true) : a.key = b.key := (has_iff.1 ha).2.trans (has_iff.1 hb).2.symm
theorem plug_lt {t : Tr} {C : List Fm} {X : PT} {Y : PT} (h : At t Y) (hp : plug C X = Y) : ∀ p, p ∈ (plug C X).inners ∨ p ∈ (plug C X).leaves → p < t.ns.length := by
  intro p hh
  rw [hp] at hh
  rcases hh with hh | hh
  · exact (at_inners h p hh).lt
  · exact (at_leaves h p hh).1
theorem ins_cont1 {t T : Tr} {n : Nat} {f : Fm} {D : List Fm} {l : Nat} {L L' : PT} {k : ByteArray} {v c : Int} (hnd : ∀ p, p ∈ (plug (f :: D) (.leaf l)).inners ∨ p ∈ (plug (f :: D) (.leaf l)).leaves → T.nd p = t.nd p) (h2 : T.nd 2 = t.nd 2) (n0 : T.nd n = lowN t l k v) (n1 : T.nd (n + 1) = highN t l k v) (n2 : T.nd (n + 2) = ⟨true, (highN t l k v).fin, (highN t l k v).key, 0, c⟩)
    (hp : plug (f :: D) (.leaf l) = .node 2 L (.leaf 1)) (hp' : plug (f :: D) (.node (n + 2) (.leaf n) (.leaf (n + 1))) = .node 2 L' (.leaf 1)) (hs : Sides t k (f :: D)) (ho : Ord t (.node 2 L (.leaf 1))) (hh : (t.nd l).has k = false) (htop : ∀ k, (t.nd 2).above k = true) :
    Ord T (.node 2 L' (.leaf 1)) ∧ ∀ k', cont T L' k' = if k' = k then some v else cont t L k' := by
  have hoT : Ord T (plug (f :: D) (.leaf l)) := ord_nd (fun p hpp => hnd p hpp) (by rw [hp]; exact ho)
  have hot : Ord t (plug (f :: D) (.leaf l)) := by rw [hp]; exact ho
  rw [ord_plug] at hoT hot
  obtain ⟨cT, _, _⟩ := hoT
  obtain ⟨ct, _, sl⟩ := hot
  have hpin : ∀ g ∈ f :: D, T.nd g.p = t.nd g.p := fun g hg => hnd g.p (Or.inl ((plug_inners (f :: D) (.leaf l)).mem_iff.2 (List.mem_append_left _ (by
    clear hp hp' hs ct cT sl hnd
    revert hg
    generalize f :: D = C
    induction C with
    | nil => intro h; cases h
    | cons a C ih =>
      intro h
      rcases List.mem_cons.1 h with rfl | h
      · simp [cxInners]
      · simp only [cxInners, List.mem_cons, List.mem_append]; exact Or.inr (Or.inr (ih h)))) ))
  have hsT : ∀ g ∈ f :: D, ∀ q ∈ (PT.node (n + 2) (.leaf n) (.leaf (n + 1))).leaves, SideOk T g.p g.lt q := by
    intro g hg q hq
    unfold SideOk
    rw [hpin g hg]
    have hk : (t.nd g.p).above k = g.lt := (hs g hg).symm
    have hl := sl g hg l (by simp [PT.leaves])
    simp only [PT.leaves, List.cons_append, List.nil_append, List.mem_cons, List.not_mem_nil, or_false] at hq
    rcases hq with rfl | rfl
    · rw [n0]
      unfold lowN
      by_cases ha : (t.nd l).above k = true
      · rw [if_pos ha]; exact ⟨fun _ => hk, fun e => by cases e⟩
      · rw [if_neg ha]; exact hl
    · rw [n1]
      unfold highN
      by_cases ha : (t.nd l).above k = true
      · rw [if_pos ha]; exact hl
      · rw [if_neg ha]; exact ⟨fun _ => hk, fun e => by cases e⟩
  have hne : (t.nd l).fin = false → (t.nd l).key ≠ k := fun h e => by
    have := (has_iff (n := t.nd l) (k := k)).2 ⟨h, e⟩
    rw [hh] at this; cases this
  have hlow : (t.nd l).above k = false → (t.nd l).fin = false ∧ ls (t.nd l).key.toList k.toList = true := fun ha => by
    unfold Nd.above at ha
    rw [Bool.or_eq_false_iff] at ha
    refine ⟨ha.1, ?_⟩
    cases hx : ls (t.nd l).key.toList k.toList
    · exact absurd (bs_inj (ls_total hx ha.2)) (hne ha.1)
    · rfl
  have hor : Ord T (.node 2 L' (.leaf 1)) := by
    rw [← hp', ord_plug]
    refine ⟨cT, ⟨fun q hq => ?_, fun q hq => ⟨fun hf => ?_, fun _ e => (by cases e)⟩, trivial, trivial⟩, hsT⟩
    · simp only [PT.leaves, List.mem_singleton] at hq
      subst hq
      unfold SideOk
      rw [n2, n0]
      unfold lowN highN
      by_cases ha : (t.nd l).above k = true
      · rw [if_pos ha, if_pos ha]; exact ⟨fun _ => ha, fun e => by cases e⟩
      · rw [if_neg ha, if_neg ha]
        obtain ⟨x1, x2⟩ := hlow (by simpa using ha)
        exact ⟨fun _ => above_iff.2 (Or.inr x2), fun e => by rw [x1] at e; cases e⟩
    · simp only [PT.leaves, List.mem_singleton] at hq
      subst hq
      rw [n2]
      rw [n1] at hf ⊢
      unfold Nd.above
      dsimp only
      rw [hf, Bool.false_or]
      exact ls_irrefl _
  refine ⟨hor, fun k' => ?_⟩
  have lk : ∀ (t : Tr) X k, (∀ k, (t.nd 2).above k = true) → look t k (.node 2 X (.leaf 1)) = look t k X := fun t X k h => by
    show (if (t.nd 2).above k then _ else _) = _
    rw [if_pos (h k)]
  have htop' : ∀ k, (T.nd 2).above k = true := fun k => by rw [h2]; exact htop k
  have e1 : look T k' L' = look T k' (plug (f :: D) (.node (n + 2) (.leaf n) (.leaf (n + 1)))) := by rw [hp', lk T L' k' htop']
  have e2 : look t k' L = look t k' (plug (f :: D) (.leaf l)) := by rw [hp, lk t L k' htop]
  have hsame : ∀ g ∈ f :: D, (T.nd g.p) = t.nd g.p := hpin
  unfold cont
  rw [e1, e2]
  by_cases hC : Sides t k' (f :: D)
  · have hCT : Sides T k' (f :: D) := fun g hg => by rw [hsame g hg]; exact hC g hg
    rw [(look_plug T k' (f :: D) _).1 hCT, (look_plug t k' (f :: D) _).1 hC]
    have hlook : look T k' (.node (n + 2) (.leaf n) (.leaf (n + 1))) = if (T.nd (n + 2)).above k' then n else n + 1 := rfl
    have hl0 : look t k' (.leaf l) = l := rfl
    rw [hlook, n2, hl0]
    by_cases ha : (t.nd l).above k = true
    · have hlo : lowN t l k v = leafOf k v := by unfold lowN; rw [if_pos ha]
      have hhi : highN t l k v = t.nd l := by unfold highN; rw [if_pos ha]
      rw [hlo] at n0
      rw [hhi] at n1
      rw [hhi]
      have hab : (⟨true, (t.nd l).fin, (t.nd l).key, 0, c⟩ : Nd).above k' = (t.nd l).above k' := rfl
      rw [hab]
      by_cases hk : k' = k
      · subst hk
        rw [if_pos ha, n0, if_pos (show (leafOf k' v).has k' = true from has_iff.2 ⟨rfl, rfl⟩), if_pos rfl]; rfl
      · rw [if_neg hk]
        by_cases hb : (t.nd l).above k' = true
        · rw [if_pos hb, n0, if_neg (fun e => hk (has_iff.1 e).2.symm), if_neg]
          intro e
          obtain ⟨x1, x2⟩ := has_iff.1 e
          rcases above_iff.1 hb with h | h
          · rw [x1] at h; cases h
          · rw [x2, ls_irrefl] at h; cases h
        · rw [if_neg hb, n1]
    · have hlo : lowN t l k v = t.nd l := by unfold lowN; rw [if_neg ha]
      have hhi : highN t l k v = leafOf k v := by unfold highN; rw [if_neg ha]
      rw [hlo] at n0
      rw [hhi] at n1
      rw [hhi]
      have hab : (⟨true, (leafOf k v).fin, (leafOf k v).key, 0, c⟩ : Nd).above k' = ls k'.toList k.toList := rfl
      rw [hab]
      obtain ⟨x1, x2⟩ := hlow (by simpa using ha)
      by_cases hk : k' = k
      · subst hk
        rw [ls_irrefl, if_neg Bool.false_ne_true, n1, if_pos (show (leafOf k' v).has k' = true from has_iff.2 ⟨rfl, rfl⟩), if_pos rfl]; rfl
      · rw [if_neg hk]
        by_cases hb : ls k'.toList k.toList = true
        · rw [if_pos hb, n0]
        · rw [if_neg hb, n1, if_neg (fun e => hk (has_iff.1 e).2.symm), if_neg]
          intro e
          obtain ⟨_, y2⟩ := has_iff.1 e
          rw [y2] at x2
          exact hb x2
  · have hCT : ¬ Sides T k' (f :: D) := fun h => hC (fun g hg => by rw [← hsame g hg]; exact h g hg)
    rw [(look_plug T k' (f :: D) _).2 hCT (.leaf l)]
    have hk : k' ≠ k := fun e => hC (by rw [e]; exact hs)
    rw [if_neg hk]
    have e3 : look T k' (plug (f :: D) (.leaf l)) = look t k' (plug (f :: D) (.leaf l)) := look_nd k' (fun p hpp => hnd p (Or.inl hpp))
    rw [e3, hnd _ (Or.inr (look_leaf t k' _))]
theorem ins_cont0 {t T : Tr} {f : Fm} {D : List Fm} {l : Nat} {L L' : PT} {k : ByteArray} {v c : Int} (hlt : ∀ p, p ∈ (plug (f :: D) (.leaf l)).inners ∨ p ∈ (plug (f :: D) (.leaf l)).leaves → p < t.ns.length) (i2 : 2 < t.ns.length) (hnd : ∀ p, p < t.ns.length → T.nd p = t.nd p) (n0 : T.nd t.ns.length = lowN t l k v) (n1 : T.nd (t.ns.length + 1) = highN t l k v) (n2 : T.nd (t.ns.length + 2) = ⟨true, (highN t l k v).fin, (highN t l k v).key, 0, c⟩)
    (hp : plug (f :: D) (.leaf l) = .node 2 L (.leaf 1)) (hp' : plug (f :: D) (.node (t.ns.length + 2) (.leaf t.ns.length) (.leaf (t.ns.length + 1))) = .node 2 L' (.leaf 1)) (hs : Sides t k (f :: D)) (ho : Ord t (.node 2 L (.leaf 1))) (hh : (t.nd l).has k = false) (htop : ∀ k, (t.nd 2).above k = true) :
    Ord T (.node 2 L' (.leaf 1)) ∧ ∀ k', cont T L' k' = if k' = k then some v else cont t L k' :=
  ins_cont1 (fun p hpp => hnd p (hlt p hpp)) (hnd 2 i2) n0 n1 n2 hp hp' hs ho hh htop
theorem ins_cont {t T : Tr} {f : Fm} {D : List Fm} {l : Nat} {L L' : PT} {k : ByteArray} {v c : Int} (hat : At t (.node 2 L (.leaf 1))) (hnd : ∀ p, p < t.ns.length → T.nd p = t.nd p) (n0 : T.nd t.ns.length = lowN t l k v) (n1 : T.nd (t.ns.length + 1) = highN t l k v) (n2 : T.nd (t.ns.length + 2) = ⟨true, (highN t l k v).fin, (highN t l k v).key, 0, c⟩)
    (hp : plug (f :: D) (.leaf l) = .node 2 L (.leaf 1)) (hp' : plug (f :: D) (.node (t.ns.length + 2) (.leaf t.ns.length) (.leaf (t.ns.length + 1))) = .node 2 L' (.leaf 1)) (hs : Sides t k (f :: D)) (ho : Ord t (.node 2 L (.leaf 1))) (hh : (t.nd l).has k = false) (htop : ∀ k, (t.nd 2).above k = true) :
    Ord T (.node 2 L' (.leaf 1)) ∧ ∀ k', cont T L' k' = if k' = k then some v else cont t L k' :=
  ins_cont0 (plug_lt (C := f :: D) (X := .leaf l) hat hp) (at_inners hat 2 (by simp [PT.inners])).lt hnd n0 n1 n2 hp hp' hs ho hh htop
/-- only the count is another one -/
theorem SameC.ord {t t' : Tr} (h : SameC t t') {T : PT} (k : Ord t T) : Ord t' T := ord_nd (fun p _ => h.nd p) k
theorem SameC.cont {t t' : Tr} (h : SameC t t') (L : PT) (k : ByteArray) : cont t' L k = cont t L k := by
  unfold Go.Proofs.Ytmhiolhgofackaa.cont
  rw [look_nd (t' := t') k (fun p _ => h.nd p), h.nd]
/-- an empty tree -/
theorem new_facts (ms : MS) (hc : ms.c.length = 0) : Quiet (Tr.new ms) (.leaf 0) ∧ Ord (Tr.new ms) (.node 2 (.leaf 0) (.leaf 1)) ∧ (∀ k, cont (Tr.new ms) (.leaf 0) k = none) ∧ (Tr.new ms).ns.length = 3 ∧ (Tr.new ms).ws.length = 0 ∧ (Tr.new ms).ms.n = ms.n := by
  have hg : ms.growOk 3 = true := by unfold MS.growOk; rw [hc]; simp
  have hms : (Tr.new ms).ms = ⟨[0, 0, 0], ms.n⟩ := by
    show ms.grow 3 = _
    unfold MS.grow
    rw [if_pos hg]
    have : ms.c = [] := List.eq_nil_of_length_eq_zero hc
    rw [this]; rfl
  have n0 : (Tr.new ms).nd 0 = endN := rfl
  have n1 : (Tr.new ms).nd 1 = endN := rfl
  have n2 : (Tr.new ms).nd 2 = ⟨true, true, ⟨#[]⟩, 0, 0⟩ := by
    show (⟨true, true, ⟨#[]⟩, 0, (ms.c.length : Int)⟩ : Nd) = _
    rw [hc]; rfl
  have hl : (Tr.new ms).ns.length = 3 := rfl
  have z : ∀ x, (Tr.new ms).ms.at x = 0 := fun x => by
    rw [hms]; unfold MS.at MS.has
    split
    · rename_i h
      have h := of_decide_eq_true h
      simp only [List.length_cons, List.length_nil] at h
      have : x = 0 ∨ x = 1 ∨ x = 2 := by omega
      rcases this with rfl | rfl | rfl <;> rfl
    · rfl
  refine ⟨⟨⟨⟨by omega, by rw [n2], by omega, by omega, by rw [n2]; rfl, by rw [z]; rfl, by rw [z]; exact ⟨Int.le_refl _, by decide⟩⟩, ?_, ?_, ⟨by omega, by rw [n0]; rfl⟩, ⟨by omega, by rw [n1]; rfl⟩⟩, by simp [PT.inners], fun _ => rfl, fun o ho => (by cases ho), by rw [hms, hl]; rfl, by rw [hl], by rw [n2], by rw [n1]; rfl, by show ((Tr.new ms).nd 0).fin = true; rw [n0]; rfl, ?_⟩, ⟨fun q hq => ⟨fun hf => ?_, fun _ _ => ?_⟩, fun q hq => ⟨fun hf => ?_, fun _ e => (by cases e)⟩, trivial, trivial⟩, fun k => ?_, rfl, rfl, by rw [hms]⟩
  · show ((((2 : Nat) : Int) - 2 + (Tr.new ms).ms.at _) % 18446744073709551616).toNat = 0
    rw [z]; rfl
  · show ((((2 : Nat) : Int) - 1 + (Tr.new ms).ms.at _) % 18446744073709551616).toNat = 1
    rw [z]; rfl
  · rw [hms]
    intro x hx
    simp only [List.mem_cons, List.not_mem_nil, or_false, or_self] at hx
    subst hx
    exact ⟨Int.le_refl _, by decide⟩
  · simp only [PT.leaves, List.mem_singleton] at hq; subst hq; rw [n0] at hf; cases hf
  · rw [n2]
  · simp only [PT.leaves, List.mem_singleton] at hq; subst hq; rw [n1] at hf; cases hf
  · unfold cont
    show (if ((Tr.new ms).nd 0).has k then _ else _) = _
    rw [n0]; rfl
end Go.Proofs.Ytmhiolhgofackaa
