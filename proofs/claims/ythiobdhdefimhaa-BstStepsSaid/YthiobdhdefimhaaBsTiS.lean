/- PACKAGE bst, PLAINLY: each step keeps what holds, whoever steps -/
import Derived.Test.YthiobdhdefimhaaBsCi
import Derived.Test.YthiobdhdefimhaaBsNew
namespace Go.Proofs.Ythiobdhdefimhaa
open Go.RowKit
set_option linter.unusedVariables false
set_option linter.unusedSimpArgs false

structure Bd (t : Tr) (c : Cl) : Prop where
  ns : t.ns.length ≤ 60000
  asked : t.ms.n ≤ 1000000000000
  ws : t.ws.length ≤ 900000000
  path : c.path.length ≤ 1000000000
section
variable {t : Tr} {c : Cl}
theorem Bd.small (hb : Bd t c) (h : TI t) : Small t c := ⟨by rw [h.len]; have := hb.ns; omega, by have := hb.asked; omega, by have := hb.ws; omega, by have := hb.path; omega⟩
theorem begin_n (t : Tr) (o : Wk) (s : Int) : t.ms.n ≤ (t.begin o s).ms.n ∧ (t.begin o s).ms.n ≤ t.ms.n + 1 := by
  unfold Tr.begin
  dsimp only
  split
  · exact MS.cas_n _ _ _ _
  · exact MS.cas_n _ _ _ _
theorem grow_n (m : MS) (n : Int) : (m.grow n).n = m.n := by unfold MS.grow; split <;> rfl
theorem Gr.begin (t : Tr) (o : Wk) (s : Int) : Gr t (t.begin o s) ∧ (t.begin o s).ws.length ≤ t.ws.length + 1 := by
  cases hc : t.ms.casB (t.word o.at_) s with
  | false => rw [begin_no hc]; exact ⟨Gr.of rfl rfl, by show t.ws.length ≤ _; omega⟩
  | true =>
    rw [begin_ok hc]
    have e : ((t.cas (t.word o.at_) s (packW o.state ((t.ws.length : Int) + 1))).start o).ws.length = t.ws.length + 1 := by simp [Tr.start, Tr.cas]
    refine ⟨⟨Nat.le_refl _, fun p hp => rfl, by rw [e]; omega, fun i h0 hi => wk_start (t := t.cas (t.word o.at_) s (packW o.state ((t.ws.length : Int) + 1))) h0 hi⟩, by rw [e]; omega⟩
theorem Gr.split (t : Tr) (l : Nat) (k : ByteArray) (v : Int) : Gr t (t.split l k v) ∧ (t.split l k v).ns.length = t.ns.length + 3 ∧ (t.split l k v).ws.length = t.ws.length ∧ (t.split l k v).ms.n = t.ms.n ∧ (t.split l k v).nd (t.ns.length + 2) = ⟨true, (highN t l k v).fin, (highN t l k v).key, 0, t.ms.c.length⟩ := by
  rw [split_eq]
  obtain ⟨n1, n2, n3, n4, n5⟩ := join_nd (t := t) (lo := lowN t l k v) (hi := highN t l k v)
  exact ⟨⟨by rw [n5]; omega, n1, Nat.le_refl _, fun _ _ _ => rfl⟩, n5, rfl, grow_n _ _, n4⟩
theorem toward_two (h : TI t) (k : ByteArray) : t.toward 2 k = t.left 2 := by
  unfold Tr.toward
  have : (t.nd 2).above k = true := by unfold Nd.above; rw [h.two.2]; rfl
  rw [if_pos this]
def StepI (t : Tr) (c : Cl) (s : Stp) : Prop :=
  StepOk t c s ∧ TI (stepP t c s).1 ∧ Gr t (stepP t c s).1 ∧ OutI (stepP t c s).1 c.kd (c.path.length + 2) (stepP t c s).2 ∧ (stepP t c s).1.ns.length ≤ t.ns.length + 3 ∧ (stepP t c s).1.ws.length ≤ t.ws.length + 1 ∧ t.ms.n ≤ (stepP t c s).1.ms.n ∧ (stepP t c s).1.ms.n ≤ t.ms.n + 1
theorem desc_ask (t : Tr) (c : Cl) (x : Int) (n : Nat) (m : Md) : c.desc (t.ask x) n m = c.desc t n m := by
  unfold Cl.desc
  rw [leaf_same (SameC.ask t x)]
  cases m <;> rfl
theorem stepI_desc (h : TI t) (hc : CC t c) (hb : Bd t c) {b : Br} {m : Md} (hs : SI t c (.desc b m)) : StepI t c (.desc b m) := by
  obtain ⟨d1, d2⟩ := desc_si h hc (by have := hb.ns; omega) (by have := hb.path; omega) hs
  have hg : Gr t (t.ask b.cell) := Gr.of rfl rfl
  refine ⟨⟨hs.1, d1⟩, h.ask _, hg, ?_, by show t.ns.length ≤ _; omega, by show t.ws.length ≤ _; omega, (ask_n t _).1, (ask_n t _).2⟩
  show OutI (t.ask b.cell) c.kd _ (c.desc (t.ask b.cell) (t.kid b) m)
  rw [desc_ask]
  exact d2.mono h hg (by omega)
theorem beg_si (h : TI t) (hc : CC t c) (hk : c.kd = .ins) : CC t ({ c with full := !t.room, path := [⟨2, false, 0⟩] } : Cl) ∧ SI t ({ c with full := !t.room, path := [⟨2, false, 0⟩] } : Cl) (.desc (t.toward 2 c.key) .way) := by
  refine ⟨⟨fun ps hps => ?_, fun i ps hps => ?_, hc.over, hc.none⟩, ?_, ⟨2, h.inn2, toward_or t 2 c.key⟩, fun _ => ⟨by simp, fun _ => toward_two h c.key⟩, fun e => by cases e⟩
  · have hps' : ps ∈ [(⟨2, false, 0⟩ : Ps)] := hps
    simp only [List.mem_singleton] at hps'
    subst hps'; exact h.inn2
  · have hps' : [(⟨2, false, 0⟩ : Ps)][i]? = some ps := hps
    have hi := (List.getElem?_eq_some_iff.1 hps').1
    simp at hi
    subst hi
    simp at hps'
    subst hps'
    simp
  · show MdOk c.kd .way
    rw [hk]; trivial
theorem stepI_beg (h : TI t) (hc : CC t c) (hb : Bd t c) (hs : SI t c .beg) : StepI t c .beg := by
  obtain ⟨c1, c2⟩ := beg_si h hc hs
  obtain ⟨d1, d2⟩ := desc_si h c1 (by have := hb.ns; omega) (by show 1 ≤ _; omega) c2
  have hg : Gr t (t.ask (t.toward 2 c.key).cell) := Gr.of rfl rfl
  exact ⟨⟨hs, h.nd (by have := hb.ns; omega) h.inn2, d1⟩, h.ask _, hg, d2.mono h hg (by show 1 + 1 ≤ _; omega), by show t.ns.length ≤ _; omega, by show t.ws.length ≤ _; omega, (ask_n t _).1, (ask_n t _).2⟩
theorem stepI_look (h : TI t) (hc : CC t c) (hb : Bd t c) (hs : SI t c .look) : StepI t c .look := by
  obtain ⟨hu, hp⟩ := hs
  obtain ⟨u1, u2⟩ := hc.up (n := 0) (List.length_pos_iff.2 hp)
  have hg : Gr t (t.ask (t.word (c.up 0).node)) := Gr.of rfl rfl
  exact ⟨⟨hu, hp, h.nd (by have := hb.ns; omega) u1, isU_at h.isu _, (h.word _ u1).hlp h⟩, h.ask _, hg, (met_si h hc hu hp).mono h hg (by omega), by show t.ns.length ≤ _; omega, by show t.ws.length ≤ _; omega, (ask_n t _).1, (ask_n t _).2⟩
theorem stepI_down (h : TI t) (hc : CC t c) (hb : Bd t c) (hs : SI t c .down) : StepI t c .down := by
  obtain ⟨hu, hp⟩ := hs
  have hl := List.length_pos_iff.2 hp
  obtain ⟨u1, u2⟩ := hc.up (n := 0) hl
  have hsd : SI t c (.desc (t.toward (c.up 0).node c.key) .way) := by
    refine ⟨?_, ⟨_, u1, toward_or t _ _⟩, fun _ => ⟨hp, fun e => ?_⟩, fun e => by cases e⟩
    · rcases hu with e | e <;> rw [e] <;> trivial
    · rw [u2.2 (by omega)]; exact toward_two h _
  obtain ⟨d1, d2⟩ := desc_si h hc (by have := hb.ns; omega) (by have := hb.path; omega) hsd
  have hg : Gr t (t.ask (t.toward (c.up 0).node c.key).cell) := Gr.of rfl rfl
  refine ⟨⟨hu, hp, h.nd (by have := hb.ns; omega) u1, d1⟩, h.ask _, hg, ?_, by show t.ns.length ≤ _; omega, by show t.ws.length ≤ _; omega, (ask_n t _).1, (ask_n t _).2⟩
  obtain ⟨n, hn⟩ : ∃ n, n = t.kid (t.toward (c.up 0).node c.key) := ⟨_, rfl⟩
  rw [← hn] at d2
  show OutI _ c.kd _ (if (t.nd (t.kid (t.toward (c.up 0).node c.key))).inner then (c.pass (t.kid (t.toward (c.up 0).node c.key)), some .look) else c.leaf t (t.kid (t.toward (c.up 0).node c.key)) .way)
  rw [← hn]
  unfold Cl.desc at d2
  by_cases hi : (t.nd n).inner = true
  · rw [if_pos hi] at d2 ⊢
    obtain ⟨e1, e2, e3, e4⟩ := d2
    have hlen : (c.pass n).path.length = c.path.length + 1 := by show (c.path ++ [_]).length = _; simp
    exact (OutI.goes (t := t) (c := c.pass n) e2 (n := c.path.length + 1) (by omega) (s := .look) ⟨hu, ne_nil_of_len (by omega)⟩).mono h hg (by omega)
  · rw [if_neg hi] at d2 ⊢
    exact d2.mono h hg (by omega)
theorem wks_in (h : TI t) : WksIn t := by
  intro o ho
  obtain ⟨i, hi⟩ := List.getElem?_of_mem ho
  have hlt := (List.getElem?_eq_some_iff.1 hi).1
  have e : t.wk (i + 1) = o := by unfold Tr.wk; rw [List.getD_eq_getElem?_getD]; simp [hi]
  have := h.wks (i + 1) (by omega) (by omega)
  rw [e] at this
  exact ⟨this.at_.1, this.old, fun p hp => (this.nxt p hp).1⟩
theorem room_of (h : TI t) (hb : t.ns.length ≤ 60000) : t.room = true := by unfold Tr.room; apply decide_eq_true; rw [h.len]; omega
theorem stepI_grow (h : TI t) (hc : CC t c) (hb : Bd t c) {l : Nat} (hs : SI t c (.grow l)) : StepI t c (.grow l) := by
  obtain ⟨hk, hp, hl, hi⟩ := hs
  have hns := hb.ns
  have hroom := room_of h hns
  obtain ⟨u1, u2⟩ := hc.up (n := 0) (List.length_pos_iff.2 hp)
  have hok : GrowOk t c l := ⟨hl, hp, by have := hb.path; omega, h.nd (by omega) u1, h.nd (by omega) h.inn2, by rw [h.len]; omega, by have := hb.asked; omega, by omega, wks_in h, fun i hi => (h.live i hi).2, by have := hb.ws; omega, isU_at h.isu _, (h.word _ u1).hlp h, fun e => (by rw [hroom] at e; cases e), fun p hp => (hc.path p hp).1, hc.none (by rw [hk]; simp)⟩
  have hu : Upd c := Or.inl hk
  unfold StepI
  refine ⟨⟨hk, hok⟩, ?_⟩
  simp only [stepP, if_pos hroom]
  cases hcb : t.ms.casB (t.word (c.up 0).node) (c.up 0).seen with
  | false =>
    rw [if_neg Bool.false_ne_true]
    obtain ⟨o, ho⟩ : ∃ o : Wk, o = ⟨1, c.key, (c.up 0).node, l, none, 0⟩ := ⟨_, rfl⟩
    have hcb' : t.ms.casB (t.word o.at_) (c.up 0).seen = false := by rw [ho]; exact hcb
    have hg := Gr.begin t o (c.up 0).seen
    have hn := begin_n t o (c.up 0).seen
    rw [← ho]
    refine ⟨?_, hg.1, (met_si h hc hu hp).mono h hg.1 (by omega), by rw [begin_ns]; omega, hg.2, hn.1, hn.2⟩
    rw [begin_no hcb']
    exact h.cas0 (isU_packW _ _) hcb'
  | true =>
    rw [if_pos rfl]
    obtain ⟨o, ho⟩ : ∃ o : Wk, o = ⟨1, c.key, (c.up 0).node, l, some (t.ns.length + 2), 0⟩ := ⟨_, rfl⟩
    have hcb' : t.ms.casB (t.word o.at_) (c.up 0).seen = true := by rw [ho]; exact hcb
    rw [← ho]
    have hoa : o.at_ = (c.up 0).node := by rw [ho]
    have hol : o.old = l := by rw [ho]
    obtain ⟨e1, e2⟩ := begin_split (t := t) (o := o) (l := l) (k := c.key) (v := c.val) hcb' (by rw [hoa]; exact u1.1) hroom
    rw [e1]
    obtain ⟨g1, g2, g3, g4, g5⟩ := Gr.split t l c.key c.val
    have h2 := h.split hi c.key c.val hroom
    obtain ⟨t2, ht2⟩ : ∃ t2, t2 = t.split l c.key c.val := ⟨_, rfl⟩
    rw [← ht2] at g1 g2 g3 g4 g5 h2 e2 ⊢
    have h3 := h.three
    have hnx : NxOk t2 l (t.ns.length + 2) := ⟨by rw [g2]; omega, by omega, fun hf => by
      rw [g1.nd l hl] at hf
      rw [g5]; exact high_fin _ _ hf⟩
    have hwk : WkT t2 o := by
      refine ⟨by rw [hoa]; exact g1.inn u1, by rw [hol, g2]; omega, fun q hq => ?_, Or.inl ?_⟩
      · rw [ho] at hq
        simp only [Option.some.injEq] at hq
        rw [hol, ← hq]; exact hnx
      · rw [ho]; exact ⟨rfl, _, rfl⟩
    have hgb := Gr.begin t2 o (c.up 0).seen
    have hn := begin_n t2 o (c.up 0).seen
    refine ⟨h2.begin _ hwk (by rw [g3]; have := hb.ws; omega), g1.trans hgb.1, ?_, by rw [begin_ns, g2]; exact Nat.le_refl _, by rw [← g3]; exact hgb.2, by rw [← g4]; exact hn.1, by rw [← g4]; exact hn.2⟩
    have hwl : (t2.begin o (c.up 0).seen).ws.length = t.ws.length + 1 := by rw [begin_ok e2]; simp [Tr.start, Tr.cas, g3]
    have hwi : (t2.begin o (c.up 0).seen).wk (t.ws.length + 1) = o := by
      rw [begin_ok e2, ← g3]
      exact wk_last (t := t2.cas (t2.word o.at_) (c.up 0).seen (packW o.state ((t2.ws.length : Int) + 1)))
    refine OutI.goes (hc.mono (g1.trans hgb.1)) (by omega) (s := .take _ _ _) ⟨⟨by omega, by rw [hwl]; omega⟩, ?_, ?_, hu, ?_⟩
    · rw [hwi, hol, begin_ns, g2]; omega
    · rw [hwi, hol]; exact hgb.1.nx (by rw [g2]; omega) hnx
    · rw [begin_ns, g2]; omega
theorem stepI_lose (h : TI t) (hc : CC t c) (hb : Bd t c) {l : Nat} (hs : SI t c (.lose l)) : StepI t c (.lose l) := by
  obtain ⟨hk, hp, hl⟩ := hs
  have hns := hb.ns
  obtain ⟨u1, u2⟩ := hc.up (n := 0) (by omega)
  obtain ⟨v1, v2⟩ := hc.up (n := 1) (by omega)
  have hok : LoseOk t c l := ⟨hl, hp, by have := hb.path; omega, h.nd (by omega) v1, u1.1, by rw [h.len]; omega, by have := hb.asked; omega, fun i hi => (h.live i hi).2, by have := hb.ws; omega, isU_at h.isu _, (h.word _ v1).hlp h, fun p hp => (hc.path p hp).1, hc.none (by rw [hk]; simp)⟩
  have hu : Upd c := Or.inr hk
  unfold StepI
  refine ⟨⟨hk, hok⟩, ?_⟩
  simp only [stepP]
  obtain ⟨o, ho⟩ : ∃ o : Wk, o = ⟨2, c.key, (c.up 1).node, (c.up 0).node, none, (c.up 0).seen⟩ := ⟨_, rfl⟩
  rw [← ho]
  have hoa : o.at_ = (c.up 1).node := by rw [ho]
  have hg := Gr.begin t o (c.up 1).seen
  have hn := begin_n t o (c.up 1).seen
  have hwk : WkT t o := by
    refine ⟨by rw [hoa]; exact v1, by rw [ho]; exact u1.1, fun q hq => (by rw [ho] at hq; cases hq), Or.inr ?_⟩
    rw [ho]
    exact ⟨rfl, u1, fun e => by have := u2.1 e; omega⟩
  refine ⟨h.begin _ hwk (by have := hb.ws; omega), hg.1, ?_, by rw [begin_ns]; omega, hg.2, hn.1, hn.2⟩
  cases hcb : t.ms.casB (t.word (c.up 1).node) (c.up 1).seen with
  | false =>
    rw [if_neg Bool.false_ne_true]
    have hne : (c.cut 1).path ≠ [] := ne_nil_of_len (by rw [cut_len]; omega)
    have := met_si h (hc.cut 1) (show Upd (c.cut 1) from hu) hne
    rw [cut_up (by omega)] at this
    exact this.mono h hg.1 (by rw [cut_len]; omega)
  | true =>
    rw [if_pos rfl]
    have hcb' : t.ms.casB (t.word o.at_) (c.up 1).seen = true := by rw [hoa]; exact hcb
    have hwl : (t.begin o (c.up 1).seen).ws.length = t.ws.length + 1 := by rw [begin_ok hcb']; simp [Tr.start, Tr.cas]
    have hwi : (t.begin o (c.up 1).seen).wk (t.ws.length + 1) = o := by
      rw [begin_ok hcb']
      exact wk_last (t := t.cas (t.word o.at_) (c.up 1).seen (packW o.state ((t.ws.length : Int) + 1)))
    refine OutI.goes (hc.mono hg.1) (by omega) (s := .mark _ _ _) ⟨⟨by omega, by rw [hwl]; omega⟩, by rw [hwi, ho], ⟨hu, by rw [begin_ns]; exact hl⟩, ⟨hk, hp⟩⟩
theorem WkT.rem {o : Wk} (h : WkT t o) (hs : o.state = 2) : Inn t o.old ∧ o.old ≠ 2 := by
  rcases h.kind with ⟨h1, _⟩ | ⟨_, h2⟩
  · rw [hs] at h1; cases h1
  · exact h2
theorem stepI_mark (h : TI t) (hc : CC t c) (hb : Bd t c) {o : Nat} {th fl : Th} (hs : SI t c (.mark o th fl)) : StepI t c (.mark o th fl) := by
  obtain ⟨⟨h1, h2⟩, h3, h4, h5⟩ := hs
  obtain ⟨r1, r2⟩ := (h.wks o h1 h2).rem h3
  have hns := hb.ns
  have hws := hb.ws
  have hpk := packW_div (s := 3) (i := o) (by omega) (by omega)
  have hwd : WdOk t (packW 3 (o : Int)) := by
    refine ⟨by rw [hpk.1]; omega, fun _ => ?_⟩
    rw [hpk.1, hpk.2]
    exact ⟨fun e => by omega, fun _ => h3⟩
  have hg : Gr t (t.cas (t.word (t.wk o).old) (t.wk o).seen (packW 3 (o : Int))) := Gr.of rfl rfl
  have hn := MS.cas_n t.ms (t.word (t.wk o).old) (t.wk o).seen (packW 3 (o : Int))
  refine ⟨⟨h1, h2, h.nd (by omega) r1⟩, h.wcas r1 _ _ hwd (isU_packW _ _) (fun e => absurd e r2), hg, ?_, by show t.ns.length ≤ _; omega, by show t.ws.length ≤ _; omega, hn.1, hn.2⟩
  simp only [stepP]
  split
  · exact OutI.mono h hg (n := c.path.length) (by omega) (OutI.goes hc (Nat.le_refl _) (s := .drop o th) ⟨⟨h1, h2⟩, h3, h4⟩)
  · exact OutI.mono h hg (n := c.path.length) (by omega) (OutI.goes hc (Nat.le_refl _) (s := .fin o fl) ⟨⟨h1, h2⟩, h5⟩)
theorem stepI_drop (h : TI t) (hc : CC t c) (hb : Bd t c) {o : Nat} {th : Th} (hs : SI t c (.drop o th)) : StepI t c (.drop o th) := by
  obtain ⟨⟨h1, h2⟩, h3, h4⟩ := hs
  obtain ⟨r1, r2⟩ := (h.wks o h1 h2).rem h3
  have hns := hb.ns
  have hk : t.kid (t.beside (t.wk o).old (t.wk o).key) < t.ns.length ∧ t.kid (t.beside (t.wk o).old (t.wk o).key) ≠ 2 := by
    rcases beside_or t (t.wk o).old (t.wk o).key with e | e
    · rw [e]; exact h.kidl _ r1
    · rw [e]; exact h.kidr _ r1
  have hg : Gr t (t.ask (t.beside (t.wk o).old (t.wk o).key).cell) := Gr.of rfl rfl
  refine ⟨⟨h1, h2, h.nd (by omega) r1, hk.1⟩, h.ask _, hg, ?_, by show t.ns.length ≤ _; omega, by show t.ws.length ≤ _; omega, (ask_n t _).1, (ask_n t _).2⟩
  refine OutI.mono h hg (n := c.path.length) (by omega) (OutI.goes hc (Nat.le_refl _) (s := .take o _ th) ⟨⟨h1, h2⟩, r1.1, ⟨hk.1, hk.2, fun hf => ?_⟩, h4⟩)
  have ha : (t.nd (t.wk o).old).above (t.wk o).key = true := by unfold Nd.above; rw [hf]; rfl
  have hb2 : t.beside (t.wk o).old (t.wk o).key = t.right (t.wk o).old := by unfold Tr.beside; rw [if_pos ha]
  rw [hb2]
  exact h.finr _ r1 hf
theorem stepI_take (h : TI t) (hc : CC t c) (hb : Bd t c) {o nx : Nat} {th : Th} (hs : SI t c (.take o nx th)) : StepI t c (.take o nx th) := by
  obtain ⟨⟨h1, h2⟩, h3, h4, h5⟩ := hs
  have hns := hb.ns
  have hw := h.wks o h1 h2
  have hg : Gr t (t.turn (t.toward (t.wk o).at_ (t.wk o).key) (t.wk o).old nx) := Gr.of rfl rfl
  have hn := MS.cas_n t.ms (t.toward (t.wk o).at_ (t.wk o).key).cell (u64 ((t.wk o).old - (t.toward (t.wk o).at_ (t.wk o).key).first)) (u64 (nx - (t.toward (t.wk o).at_ (t.wk o).key).first))
  exact ⟨⟨⟨h1, h2, h.nd (by omega) hw.at_, hw.old⟩, h4.1⟩, h.turn hw.at_ _ h3 h4 (by omega), hg, OutI.mono h hg (n := c.path.length) (by omega) (OutI.goes hc (Nat.le_refl _) (s := .fin o th) ⟨⟨h1, h2⟩, h5⟩), by show t.ns.length ≤ _; omega, by show t.ws.length ≤ _; omega, hn.1, hn.2⟩
theorem stepI_fin (h : TI t) (hc : CC t c) (hb : Bd t c) {o : Nat} {th : Th} (hs : SI t c (.fin o th)) : StepI t c (.fin o th) := by
  obtain ⟨⟨h1, h2⟩, h5⟩ := hs
  have hns := hb.ns
  have hws := hb.ws
  have hw := h.wks o h1 h2
  have hpk := packW_div (s := 0) (i := o) (by omega) (by omega)
  have hwd : WdOk t (packW 0 (o : Int)) := by
    refine ⟨by rw [hpk.1]; omega, fun _ => ?_⟩
    rw [hpk.2]
    exact ⟨fun e => by omega, fun e => by omega⟩
  have hg : Gr t (stepP t c (.fin o th)).1 := Gr.of rfl rfl
  have hn := MS.cas_n t.ms (t.word (t.wk o).at_) (packW (t.wk o).state (o : Int)) (packW 0 (o : Int))
  refine ⟨⟨⟨h1, h2, h.nd (by omega) hw.at_, hw.old⟩, ?_⟩, (h.wcas hw.at_ _ _ hwd (isU_packW _ _) (fun _ => by rw [hpk.2]; omega)).done o, hg, (run_si hc h5).mono h hg (by omega), by show t.ns.length ≤ _; omega, by show t.ws.length ≤ _; omega, hn.1, hn.2⟩
  cases th with
  | told l => exact h5.1.imp id (fun e => ⟨e, h5.2⟩)
  | look => trivial
  | fail => exact ⟨h5.1, ne_nil_of_len (by have := h5.2; omega)⟩
theorem ti_step (h : TI t) (hc : CC t c) (hb : Bd t c) {s : Stp} (hs : SI t c s) : StepI t c s := by
  cases s with
  | desc b m => exact stepI_desc h hc hb hs
  | beg => exact stepI_beg h hc hb hs
  | look => exact stepI_look h hc hb hs
  | down => exact stepI_down h hc hb hs
  | grow l => exact stepI_grow h hc hb hs
  | lose l => exact stepI_lose h hc hb hs
  | mark o th fl => exact stepI_mark h hc hb hs
  | drop o th => exact stepI_drop h hc hb hs
  | take o nx th => exact stepI_take h hc hb hs
  | fin o th => exact stepI_fin h hc hb hs
theorem SI.stpIn (hc : CC t c) : ∀ {s : Stp}, SI t c s → StpIn t.ns.length t.ws.length s
  | .desc b m, _ => trivial
  | .beg, _ => trivial
  | .look, _ => trivial
  | .down, _ => trivial
  | .grow l, h => h.2.2.1
  | .lose l, h => h.2.2
  | .mark o th fl, h => ⟨h.1.1, h.1.2, by cases th <;> first | exact h.2.2.1.2 | trivial, by cases fl <;> first | exact h.2.2.2.2 | trivial⟩
  | .drop o th, h => ⟨h.1.1, h.1.2, by cases th <;> first | exact h.2.2.2 | trivial⟩
  | .take o q th, h => ⟨h.1.1, h.1.2, h.2.2.1.1, by cases th <;> first | exact h.2.2.2.2 | trivial⟩
  | .fin o th, h => ⟨h.1.1, h.1.2, by cases th <;> first | exact h.2.2 | trivial⟩
/-- a tree grows with each step -/
theorem step_gr (t : Tr) (c : Cl) (s : Stp) : Gr t (stepP t c s).1 ∧ t.ms.n ≤ (stepP t c s).1.ms.n := by
  cases s with
  | desc b m => exact ⟨Gr.of rfl rfl, (ask_n t _).1⟩
  | beg => exact ⟨Gr.of rfl rfl, (ask_n t _).1⟩
  | look => exact ⟨Gr.of rfl rfl, (ask_n t _).1⟩
  | down => exact ⟨Gr.of rfl rfl, (ask_n t _).1⟩
  | grow l =>
    simp only [stepP]
    split
    · split
      · have h1 := Gr.begin t ⟨1, c.key, (c.up 0).node, l, some (t.ns.length + 2), 0⟩ (c.up 0).seen
        have h2 := Gr.split (t.begin ⟨1, c.key, (c.up 0).node, l, some (t.ns.length + 2), 0⟩ (c.up 0).seen) l c.key c.val
        exact ⟨h1.1.trans h2.1, by rw [h2.2.2.2.1]; exact (begin_n t _ _).1⟩
      · exact ⟨(Gr.begin t _ _).1, (begin_n t _ _).1⟩
    · exact ⟨Gr.of rfl rfl, (ask_n t _).1⟩
  | lose l => exact ⟨(Gr.begin t _ _).1, (begin_n t _ _).1⟩
  | mark o th fl => exact ⟨Gr.of rfl rfl, (MS.cas_n _ _ _ _).1⟩
  | drop o th => exact ⟨Gr.of rfl rfl, (ask_n t _).1⟩
  | take o nx th => exact ⟨Gr.of rfl rfl, (MS.cas_n _ _ _ _).1⟩
  | fin o th => exact ⟨Gr.of rfl rfl, (MS.cas_n _ _ _ _).1⟩
theorem run_gr : ∀ (n : Nat) {t : Tr} {c : Cl} {s : Stp} {T : Tr} {C : Cl}, OkRun n t c s T C → Gr t T
  | 0, _, _, _, _, _, h => h.elim
  | n + 1, t, c, s, T, C, ⟨_, _, h3⟩ => by
    have hg := (step_gr t c s).1
    cases ho : (stepP t c s).2.2 with
    | none => rw [ho] at h3; obtain ⟨rfl, _⟩ := h3; exact hg
    | some s' => rw [ho] at h3; exact hg.trans (run_gr n h3)
/-- what holds stays while a call runs -/
theorem ti_run : ∀ (n : Nat) {t : Tr} {c : Cl} {s : Stp} {T : Tr} {C : Cl}, OkRun n t c s T C → TI t → CC t c → SI t c s → T.ns.length ≤ 60000 → TI T
  | 0, _, _, _, _, _, h, _, _, _, _ => h.elim
  | n + 1, t, c, s, T, C, h, ht, hc, hs, hN => by
    have hgT := run_gr (n + 1) h
    obtain ⟨_, sm, h3⟩ := h
    have hb : Bd t c := ⟨Nat.le_trans hgT.nl hN, sm.asked, sm.ws, sm.path⟩
    obtain ⟨_, k2, k3, ⟨k4, k5, k6, k7⟩, _⟩ := ti_step ht hc hb hs
    cases ho : (stepP t c s).2.2 with
    | none => rw [ho] at h3; obtain ⟨rfl, _⟩ := h3; exact k2
    | some s' => rw [ho] at h3; exact ti_run n h3 k2 k5 (k6 s' ho) hN
theorem TI.sameC {T : Tr} (h : TI t) (hs : SameC t T) : TI T := by
  obtain ⟨ns, ws, live, ms⟩ := T
  obtain ⟨h1, h2, h3, h4⟩ := hs
  dsimp only at h1 h2 h3 h4
  subst h1; subst h2; subst h3
  exact h.same ms (by rw [h4]) (by rw [h4]; exact h.isu) (fun x => by unfold MS.at MS.has; rw [h4])
theorem TI.new (ms : MS) (hc : ms.c.length = 0) : TI (Tr.new ms) := by
  obtain ⟨c, n⟩ := ms
  have hc' : c = [] := List.length_eq_zero_iff.1 hc
  subst hc'
  have hi : ∀ p, Inn (Tr.new ⟨[], n⟩) p → p = 2 := fun p hp => by
    obtain ⟨h1, h2⟩ := hp
    have h1' : p < 3 := h1
    match p, h1' with
    | 0, _ => cases h2
    | 1, _ => cases h2
    | 2, _ => rfl
  have hl : (Tr.new ⟨[], n⟩).ns.length = 3 := rfl
  have kl : (Tr.new ⟨[], n⟩).kid ((Tr.new ⟨[], n⟩).left 2) = 0 := by kernel_rfl
  have kr : (Tr.new ⟨[], n⟩).kid ((Tr.new ⟨[], n⟩).right 2) = 1 := by kernel_rfl
  exact {
    len := rfl
    mod := by rw [hl]
    three := Nat.le_refl _
    inn := fun p hp => by rw [hi p hp]; exact ⟨rfl, rfl⟩
    two := ⟨rfl, rfl⟩
    kidl := fun p hp => by rw [hi p hp, kl, hl]; omega
    kidr := fun p hp => by rw [hi p hp, kr, hl]; omega
    finr := fun p hp _ => by rw [hi p hp, kr]; rfl
    fin2 := by rw [kl]; rfl
    isu := fun x hx => by
      have hx' : x ∈ [(0 : Int), 0, 0] := hx
      simp at hx'
      subst hx'; unfold IsU; omega
    wks := fun i h0 hi => by have hi' : i ≤ 0 := hi; omega
    live := fun i hi => by cases hi
    word := fun p hp => by
      rw [hi p hp]
      have e : (Tr.new ⟨[], n⟩).ms.at ((Tr.new ⟨[], n⟩).word 2) = 0 := rfl
      rw [e]
      exact ⟨by simp, fun h => by simp at h⟩
    word2 := by
      have e : (Tr.new ⟨[], n⟩).ms.at ((Tr.new ⟨[], n⟩).word 2) = 0 := rfl
      rw [e]; decide }
/-- calls that were made -/
theorem ins_made (k : ByteArray) (v : Int) : CC t (Cl.new .ins k v) ∧ SI t (Cl.new .ins k v) .beg := ⟨⟨by simp [Cl.new], by simp [Cl.new], by simp [Cl.new], fun _ => rfl⟩, rfl⟩
theorem rem_made (h : TI t) (k : ByteArray) : CC t (Cl.new .rem k 0).start ∧ SI t (Cl.new .rem k 0).start (.desc (t.toward 2 k) .way) := by
  refine ⟨⟨fun ps hps => ?_, fun i ps hps => ?_, by simp [Cl.new, Cl.start], fun _ => rfl⟩, trivial, ⟨2, h.inn2, toward_or t 2 k⟩, fun _ => ⟨by simp [Cl.new, Cl.start], fun _ => toward_two h k⟩, fun e => by cases e⟩
  · have hps' : ps ∈ [(⟨2, false, 0⟩ : Ps)] := hps
    simp only [List.mem_singleton] at hps'
    subst hps'; exact h.inn2
  · have hps' : [(⟨2, false, 0⟩ : Ps)][i]? = some ps := hps
    have hi := (List.getElem?_eq_some_iff.1 hps').1
    simp at hi
    subst hi
    simp at hps'
    subst hps'
    simp
theorem fnd_made (h : TI t) (k : ByteArray) : CC t (Cl.new .fnd k 0) ∧ SI t (Cl.new .fnd k 0) (.desc (t.toward 2 k) .find) := ⟨⟨by simp [Cl.new], by simp [Cl.new], by simp [Cl.new], fun _ => rfl⟩, trivial, ⟨2, h.inn2, toward_or t 2 k⟩, (fun e => by cases e), (fun e => by cases e)⟩
theorem sek_made (h : TI t) (k : ByteArray) : CC t (Cl.sk t k) ∧ SI t (Cl.sk t k) (.desc (t.toward 2 k) .seek) := by
  have ha : (t.nd 2).above k = true := by unfold Nd.above; rw [h.two.2]; rfl
  have hc : Cl.sk t k = { Cl.new .sek k 0 with over := some 2 } := by unfold Cl.sk; rw [if_pos ha]
  rw [hc]
  exact ⟨⟨by simp [Cl.new], by simp [Cl.new], fun p e => by simp only [Option.some.injEq] at e; subst e; exact h.inn2, fun e => absurd rfl e⟩, trivial, ⟨2, h.inn2, toward_or t 2 k⟩, (fun e => by cases e), fun _ e => by cases e⟩
end
end Go.Proofs.Ythiobdhdefimhaa
