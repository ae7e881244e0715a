/- PACKAGE bst, PLAINLY: what holds of a tree between any two steps, whoever steps -/
import Derived.Test.YthiobdhdefimhaaBsIns
namespace Go.Proofs.Ythiobdhdefimhaa
open Go.RowKit
set_option linter.unusedVariables false
set_option linter.unusedSimpArgs false

def Inn (t : Tr) (p : Nat) : Prop := p < t.ns.length ∧ (t.nd p).inner = true
def NxOk (t : Tr) (old q : Nat) : Prop := q < t.ns.length ∧ q ≠ 2 ∧ ((t.nd old).fin = true → (t.nd q).fin = true)
structure WkT (t : Tr) (o : Wk) : Prop where
  at_ : Inn t o.at_
  old : o.old < t.ns.length
  nxt : ∀ q, o.next = some q → NxOk t o.old q
  kind : (o.state = 1 ∧ ∃ q, o.next = some q) ∨ (o.state = 2 ∧ Inn t o.old ∧ o.old ≠ 2)
def WdOk (t : Tr) (x : Int) : Prop := x / 4 ≤ t.ws.length ∧ (1 ≤ x / 4 → (x % 4 = 1 → (t.wk (x / 4).toNat).state = 1) ∧ (x % 4 = 2 ∨ x % 4 = 3 → (t.wk (x / 4).toNat).state = 2))
structure TI (t : Tr) : Prop where
  len : t.ms.c.length = t.ns.length
  mod : t.ns.length % 3 = 0
  three : 3 ≤ t.ns.length
  inn : ∀ p, Inn t p → p % 3 = 2 ∧ (t.nd p).cell = (p : Int) - 2
  two : (t.nd 2).inner = true ∧ (t.nd 2).fin = true
  kidl : ∀ p, Inn t p → t.kid (t.left p) < t.ns.length ∧ t.kid (t.left p) ≠ 2
  kidr : ∀ p, Inn t p → t.kid (t.right p) < t.ns.length ∧ t.kid (t.right p) ≠ 2
  finr : ∀ p, Inn t p → (t.nd p).fin = true → (t.nd (t.kid (t.right p))).fin = true
  fin2 : (t.nd (t.kid (t.left 2))).fin = true
  isu : ∀ x ∈ t.ms.c, IsU x
  wks : ∀ i, 1 ≤ i → i ≤ t.ws.length → WkT t (t.wk i)
  live : ∀ i, t.live i = true → 1 ≤ i ∧ i ≤ t.ws.length
  word : ∀ p, Inn t p → WdOk t (t.ms.at (t.word p))
  word2 : t.ms.at (t.word 2) % 4 ≠ 3
section
variable {t : Tr}
theorem TI.inn2 (h : TI t) : Inn t 2 := ⟨by have := h.three; omega, h.two.1⟩
theorem TI.nd (h : TI t) (hl : t.ns.length ≤ 65536) {p : Nat} (hp : Inn t p) : NdOk t p := by
  obtain ⟨h1, h2⟩ := h.inn p hp
  exact ⟨hp.1, by omega, by have := hp.1; omega, by rw [h2]; omega, by rw [h2]; have := hp.1; omega⟩
theorem TI.wordE (h : TI t) {p : Nat} (hp : Inn t p) : t.word p = (p : Int) - 2 := (h.inn p hp).2
theorem TI.leftE (h : TI t) {p : Nat} (hp : Inn t p) : t.left p = ⟨(p : Int) - 1, (p : Int) - 2⟩ := by unfold Tr.left; rw [(h.inn p hp).2]; congr 1; omega
theorem TI.rightE (h : TI t) {p : Nat} (hp : Inn t p) : t.right p = ⟨(p : Int), (p : Int) - 1⟩ := by unfold Tr.right; rw [(h.inn p hp).2]; congr 1; omega
theorem TI.mem (h : TI t) (m : MS) (hl : m.c.length = t.ms.c.length) (hu : ∀ x ∈ m.c, IsU x)
    (hk : ∀ p, Inn t p → ({ t with ms := m } : Tr).kid (t.left p) = t.kid (t.left p) ∨ NxOk t (t.kid (t.left p)) (({ t with ms := m } : Tr).kid (t.left p)))
    (hr : ∀ p, Inn t p → ({ t with ms := m } : Tr).kid (t.right p) = t.kid (t.right p) ∨ NxOk t (t.kid (t.right p)) (({ t with ms := m } : Tr).kid (t.right p)))
    (hw : ∀ p, Inn t p → WdOk t (m.at (t.word p))) (h2 : m.at (t.word 2) % 4 ≠ 3) : TI { t with ms := m } where
  len := hl.trans h.len
  mod := h.mod
  three := h.three
  inn := h.inn
  two := h.two
  kidl p hp := by
    show ({ t with ms := m } : Tr).kid (t.left p) < t.ns.length ∧ ({ t with ms := m } : Tr).kid (t.left p) ≠ 2
    rcases hk p hp with e | e
    · rw [e]; exact h.kidl p hp
    · exact ⟨e.1, e.2.1⟩
  kidr p hp := by
    show ({ t with ms := m } : Tr).kid (t.right p) < t.ns.length ∧ ({ t with ms := m } : Tr).kid (t.right p) ≠ 2
    rcases hr p hp with e | e
    · rw [e]; exact h.kidr p hp
    · exact ⟨e.1, e.2.1⟩
  finr p hp hf := by
    show (t.nd (({ t with ms := m } : Tr).kid (t.right p))).fin = true
    rcases hr p hp with e | e
    · rw [e]; exact h.finr p hp hf
    · exact e.2.2 (h.finr p hp hf)
  fin2 := by
    show (t.nd (({ t with ms := m } : Tr).kid (t.left 2))).fin = true
    rcases hk 2 h.inn2 with e | e
    · rw [e]; exact h.fin2
    · exact e.2.2 h.fin2
  isu := hu
  wks := fun i h0 hi => by have := h.wks i h0 hi; exact ⟨this.at_, this.old, this.nxt, this.kind⟩
  live := h.live
  word := hw
  word2 := h2
theorem kid_at {t : Tr} {m : MS} {b : Br} (h : m.at b.cell = t.ms.at b.cell) : ({ t with ms := m } : Tr).kid b = t.kid b := by
  unfold Tr.kid; rw [h]
theorem TI.same (h : TI t) (m : MS) (hl : m.c.length = t.ms.c.length) (hu : ∀ x ∈ m.c, IsU x) (ha : ∀ x, m.at x = t.ms.at x) : TI { t with ms := m } :=
  h.mem m hl hu (fun p _ => Or.inl (kid_at (ha _))) (fun p _ => Or.inl (kid_at (ha _))) (fun p hp => by rw [ha]; exact h.word p hp) (by rw [ha]; exact h.word2)
theorem MS.ask_mem {m : MS} {a : Int} (h : ∀ x ∈ m.c, IsU x) : ∀ x ∈ (m.ask a).c, IsU x := by unfold MS.ask; split <;> exact h
theorem TI.ask (h : TI t) (c : Int) : TI (t.ask c) := h.same _ (MS.ask_len _ _) (MS.ask_mem h.isu) (fun x => MS.at_ask _ _ _)
theorem TI.cas0 (h : TI t) {a o v : Int} (hv : IsU v) (hc : t.ms.casB a o = false) : TI (t.cas a o v) := h.same _ (MS.cas_len _ _ _ _) (MS.cas_mem hv h.isu) (fun x => by rw [MS.at_cas, if_neg (fun e => by rw [hc] at e; cases e.2)])
/-- cells of nodes are apart -/
theorem TI.left_word (h : TI t) {p q : Nat} (hp : Inn t p) (hq : Inn t q) : (t.left p).cell ≠ t.word q := by
  rw [h.leftE hp, h.wordE hq]; have := (h.inn p hp).1; have := (h.inn q hq).1; dsimp only; omega
theorem TI.right_word (h : TI t) {p q : Nat} (hp : Inn t p) (hq : Inn t q) : (t.right p).cell ≠ t.word q := by
  rw [h.rightE hp, h.wordE hq]; have := (h.inn p hp).1; have := (h.inn q hq).1; dsimp only; omega
theorem TI.word_word (h : TI t) {p q : Nat} (hp : Inn t p) (hq : Inn t q) (e : t.word p = t.word q) : p = q := by
  rw [h.wordE hp, h.wordE hq] at e; omega
theorem cas_off {m : MS} {a o v x : Int} (h : x ≠ a) : (m.cas a o v).at x = m.at x := by rw [MS.at_cas, if_neg (fun e => h e.1)]
theorem cas_on {m : MS} (P : Int → Prop) {a o v x : Int} (h : P (m.at x)) (hv : x = a → P v) : P ((m.cas a o v).at x) := by
  rw [MS.at_cas]; split
  · rename_i e; exact hv e.1
  · exact h
theorem TI.wcas (h : TI t) {p0 : Nat} (hp : Inn t p0) (o v : Int) (hv : WdOk t v) (hu : IsU v) (h2 : p0 = 2 → v % 4 ≠ 3) : TI (t.cas (t.word p0) o v) :=
  h.mem _ (MS.cas_len _ _ _ _) (MS.cas_mem hu h.isu) (fun p hq => Or.inl (kid_at (cas_off (h.left_word hq hp)))) (fun p hq => Or.inl (kid_at (cas_off (h.right_word hq hp))))
    (fun p hq => cas_on (WdOk t) (h.word p hq) (fun _ => hv)) (cas_on (fun x => x % 4 ≠ 3) h.word2 (fun e => h2 (h.word_word h.inn2 hp e).symm))
theorem toward_or (t : Tr) (p : Nat) (k : ByteArray) : t.toward p k = t.left p ∨ t.toward p k = t.right p := by
  unfold Tr.toward; split
  · exact Or.inl rfl
  · exact Or.inr rfl
theorem beside_or (t : Tr) (p : Nat) (k : ByteArray) : t.beside p k = t.left p ∨ t.beside p k = t.right p := by
  unfold Tr.beside; split
  · exact Or.inr rfl
  · exact Or.inl rfl
theorem turn_kid {b b' : Br} {old nx : Nat} (ho : old < 18446744073709551616) (hn : nx < 18446744073709551616) (he : b'.cell = b.cell → b' = b) :
    ({ t with ms := t.ms.cas b.cell (u64 (old - b.first)) (u64 (nx - b.first)) } : Tr).kid b' = t.kid b' ∨ (t.kid b' = old ∧ ({ t with ms := t.ms.cas b.cell (u64 (old - b.first)) (u64 (nx - b.first)) } : Tr).kid b' = nx) := by
  by_cases hc : b'.cell = b.cell ∧ t.ms.casB b.cell (u64 (old - b.first)) = true
  · have := he hc.1
    subst this
    refine Or.inr ⟨kid_new ho ?_, kid_new hn ?_⟩
    · have := hc.2
      unfold MS.casB at this
      rw [Bool.and_eq_true] at this
      exact of_decide_eq_true this.2
    · show (t.ms.cas b'.cell _ _).at b'.cell = _
      rw [MS.at_cas, if_pos ⟨rfl, hc.2⟩]
  · exact Or.inl (kid_at (by rw [MS.at_cas, if_neg hc]))
theorem TI.turn (h : TI t) {a : Nat} (ha : Inn t a) (k : ByteArray) {old nx : Nat} (ho : old < t.ns.length) (hn : NxOk t old nx) (hl : t.ns.length ≤ 65536) : TI (t.turn (t.toward a k) old nx) := by
  obtain ⟨b, hb⟩ : ∃ b, b = t.toward a k := ⟨_, rfl⟩
  rw [← hb]
  have hb2 : b = t.left a ∨ b = t.right a := by rw [hb]; exact toward_or t a k
  have hnl := hn.1
  have a1 := (h.inn a ha).1
  have hne : ∀ p, Inn t p → t.word p ≠ b.cell := fun p hp e => by
    rcases hb2 with r | r
    · rw [r] at e; exact h.left_word ha hp e.symm
    · rw [r] at e; exact h.right_word ha hp e.symm
  refine h.mem _ (MS.cas_len _ _ _ _) (MS.cas_mem (isU_u64 _) h.isu) (fun p hp => ?_) (fun p hp => ?_) (fun p hp => by rw [cas_off (hne p hp)]; exact h.word p hp) (by rw [cas_off (hne 2 h.inn2)]; exact h.word2)
  · have p1 := (h.inn p hp).1
    rcases turn_kid (t := t) (b := b) (b' := t.left p) (old := old) (nx := nx) (by omega) (by omega) (fun e => by
      rcases hb2 with r | r
      · rw [r, h.leftE hp, h.leftE ha] at e ⊢; dsimp only at e; have : p = a := by omega
        rw [this]
      · rw [r, h.leftE hp, h.rightE ha] at e; dsimp only at e; omega) with e | ⟨e1, e2⟩
    · exact Or.inl e
    · right; rw [e1, e2]; exact hn
  · have p1 := (h.inn p hp).1
    rcases turn_kid (t := t) (b := b) (b' := t.right p) (old := old) (nx := nx) (by omega) (by omega) (fun e => by
      rcases hb2 with r | r
      · rw [r, h.rightE hp, h.leftE ha] at e; dsimp only at e; omega
      · rw [r, h.rightE hp, h.rightE ha] at e ⊢; dsimp only at e; have : p = a := by omega
        rw [this]) with e | ⟨e1, e2⟩
    · exact Or.inl e
    · right; rw [e1, e2]; exact hn
theorem packW_div {s : Int} {i : Nat} (hs : 0 ≤ s ∧ s ≤ 3) (hi : i ≤ 1000000000) : packW s (i : Int) / 4 = i ∧ packW s (i : Int) % 4 = s := by
  unfold packW; omega
theorem wk_start {o : Wk} {i : Nat} (h0 : 1 ≤ i) (hi : i ≤ t.ws.length) : (t.start o).wk i = t.wk i := by
  unfold Tr.wk Tr.start
  simp only [List.getD_eq_getElem?_getD]
  rw [List.getElem?_append_left (by omega)]
theorem wk_last {o : Wk} : (t.start o).wk (t.ws.length + 1) = o := by
  unfold Tr.wk Tr.start
  simp [List.getD_eq_getElem?_getD]
theorem WdOk.start {o : Wk} {x : Int} (h : WdOk t x) (hx : 0 ≤ x) : WdOk (t.start o) x := by
  obtain ⟨h1, h2⟩ := h
  have hw : (t.start o).ws.length = t.ws.length + 1 := by simp [Tr.start]
  refine ⟨by rw [hw]; omega, fun h0 => ?_⟩
  rw [wk_start (by omega) (by omega)]
  exact h2 h0
theorem TI.begin (h : TI t) {o : Wk} (seen : Int) (ho : WkT t o) (hw : t.ws.length ≤ 900000000) : TI (t.begin o seen) := by
  have hst : 0 ≤ o.state ∧ o.state ≤ 3 := by rcases ho.kind with ⟨h1, _⟩ | ⟨h1, _⟩ <;> omega
  have hpk := packW_div hst (show t.ws.length + 1 ≤ 1000000000 by omega)
  cases hc : t.ms.casB (t.word o.at_) seen with
  | false => rw [begin_no hc]; exact h.cas0 (isU_packW _ _) hc
  | true =>
    rw [begin_ok hc]
    obtain ⟨v, hv⟩ : ∃ v, v = packW o.state ((t.ws.length : Int) + 1) := ⟨_, rfl⟩
    rw [← hv]
    have hv' : v / 4 = (t.ws.length + 1 : Nat) ∧ v % 4 = o.state := by rw [hv]; exact_mod_cast hpk
    have hu : IsU v := by rw [hv]; exact isU_packW _ _
    have hlen : ((t.cas (t.word o.at_) seen v).start o).ws.length = t.ws.length + 1 := by simp [Tr.start, Tr.cas]
    have hvW : WdOk ((t.cas (t.word o.at_) seen v).start o) v := by
      refine ⟨by rw [hlen, hv'.1]; omega, fun _ => ?_⟩
      have e : (v / 4).toNat = (t.cas (t.word o.at_) seen v).ws.length + 1 := by rw [hv'.1]; rfl
      rw [e, wk_last, hv'.2]
      rcases ho.kind with ⟨h1, _⟩ | ⟨h1, _⟩ <;> rw [h1] <;> simp
    have hkl : ∀ p, Inn t p → ((t.cas (t.word o.at_) seen v).start o).kid (t.left p) = t.kid (t.left p) := fun p hp => kid_at (m := t.ms.cas (t.word o.at_) seen v) (cas_off (h.left_word hp ho.at_))
    have hkr : ∀ p, Inn t p → ((t.cas (t.word o.at_) seen v).start o).kid (t.right p) = t.kid (t.right p) := fun p hp => kid_at (m := t.ms.cas (t.word o.at_) seen v) (cas_off (h.right_word hp ho.at_))
    exact {
      len := (MS.cas_len _ _ _ _).trans h.len
      mod := h.mod
      three := h.three
      inn := h.inn
      two := h.two
      kidl := fun p hp => by have := h.kidl p hp; rw [← hkl p hp] at this; exact this
      kidr := fun p hp => by have := h.kidr p hp; rw [← hkr p hp] at this; exact this
      finr := fun p hp hf => by have := h.finr p hp hf; rw [← hkr p hp] at this; exact this
      fin2 := by have := h.fin2; rw [← hkl 2 h.inn2] at this; exact this
      isu := MS.cas_mem hu h.isu
      wks := fun i h0 hi => by
        rw [hlen] at hi
        by_cases e : i = t.ws.length + 1
        · have e2 : ((t.cas (t.word o.at_) seen v).start o).wk i = o := by rw [e]; exact wk_last (t := t.cas (t.word o.at_) seen v)
          rw [e2]; exact ⟨ho.at_, ho.old, ho.nxt, ho.kind⟩
        · have e2 : ((t.cas (t.word o.at_) seen v).start o).wk i = t.wk i := wk_start (t := t.cas (t.word o.at_) seen v) h0 (by show i ≤ t.ws.length; omega)
          rw [e2]
          have := h.wks i h0 (by omega)
          exact ⟨this.at_, this.old, this.nxt, this.kind⟩
      live := fun i hi => by
        rw [hlen]
        have hi' : (if i = t.ws.length + 1 then true else t.live i) = true := hi
        split at hi'
        · omega
        · have := h.live i hi'; omega
      word := fun p hp => by
        refine cas_on (WdOk ((t.cas (t.word o.at_) seen v).start o)) (m := t.ms) ?_ (fun _ => hvW)
        exact WdOk.start (t := t.cas (t.word o.at_) seen v) (h.word p hp) (isU_at h.isu _).1
      word2 := cas_on (fun x => x % 4 ≠ 3) (m := t.ms) h.word2 (fun _ => by rw [hv'.2]; rcases ho.kind with ⟨h1, _⟩ | ⟨h1, _⟩ <;> rw [h1] <;> omega) }
theorem TI.done (h : TI t) (o : Nat) : TI { t with live := fun i => if i = o then false else t.live i } where
  len := h.len
  mod := h.mod
  three := h.three
  inn := h.inn
  two := h.two
  kidl := h.kidl
  kidr := h.kidr
  finr := h.finr
  fin2 := h.fin2
  isu := h.isu
  wks := fun i h0 hi => by have := h.wks i h0 hi; exact ⟨this.at_, this.old, this.nxt, this.kind⟩
  live := fun i hi => by
    have hi' : (if i = o then false else t.live i) = true := hi
    split at hi'
    · cases hi'
    · exact h.live i hi'
  word := h.word
  word2 := h.word2
theorem TI.join (h : TI t) {low high : Nd} (hl : low.inner = false) (hh : high.inner = false) (hroom : t.room = true) : TI (t.join low high) := by
  obtain ⟨n1, n2, n3, n4, n5⟩ := join_nd (t := t) (lo := low) (hi := high)
  have hr3 : t.ms.c.length ≤ 65533 := by unfold Tr.room at hroom; exact of_decide_eq_true hroom
  have hlen := h.len
  have hg : t.ms.growOk 3 = true := by unfold MS.growOk; apply decide_eq_true; omega
  have hms : (t.join low high).ms = ⟨t.ms.c ++ List.replicate 3 0, t.ms.n⟩ := by
    show t.ms.grow 3 = _
    unfold MS.grow; rw [if_pos hg]; rfl
  have hat : ∀ x, (t.join low high).ms.at x = t.ms.at x := fun x => MS.at_grow _ _ _
  have hws : (t.join low high).ws = t.ws := rfl
  have hwk : ∀ i, (t.join low high).wk i = t.wk i := fun _ => rfl
  have hinn : ∀ p, Inn t p → Inn (t.join low high) p := fun p hp => ⟨by rw [n5]; have := hp.1; omega, by rw [n1 p hp.1]; exact hp.2⟩
  have hcase : ∀ p, Inn (t.join low high) p → Inn t p ∨ p = t.ns.length + 2 := fun p hp => by
    obtain ⟨h1, h2⟩ := hp
    rw [n5] at h1
    by_cases e : p < t.ns.length
    · rw [n1 p e] at h2; exact Or.inl ⟨e, h2⟩
    · by_cases e0 : p = t.ns.length
      · rw [e0, n2, hl] at h2; cases h2
      · by_cases e1 : p = t.ns.length + 1
        · rw [e1, n3, hh] at h2; cases h2
        · right; omega
  have hleft : ∀ p, Inn t p → (t.join low high).left p = t.left p := fun p hp => by unfold Tr.left; rw [n1 p hp.1]
  have hright : ∀ p, Inn t p → (t.join low high).right p = t.right p := fun p hp => by unfold Tr.right; rw [n1 p hp.1]
  have hkid : ∀ b, (t.join low high).kid b = t.kid b := fun b => by unfold Tr.kid; rw [hat]
  have hout : ∀ x : Int, (t.ns.length : Int) ≤ x → t.ms.at x = 0 := fun x hx => at_has (by unfold MS.has; apply decide_eq_false; omega)
  have hm := h.mod
  have h3 := h.three
  have kl : (t.join low high).kid ((t.join low high).left (t.ns.length + 2)) = t.ns.length := by
    rw [hkid]
    unfold Tr.left Tr.kid
    rw [n4]
    dsimp only
    rw [hout _ (by omega)]
    omega
  have kr : (t.join low high).kid ((t.join low high).right (t.ns.length + 2)) = t.ns.length + 1 := by
    rw [hkid]
    unfold Tr.right Tr.kid
    rw [n4]
    dsimp only
    rw [hout _ (by omega)]
    omega
  have hwd : ∀ x, WdOk t x → WdOk (t.join low high) x := fun x hx => hx
  exact {
    len := by rw [hms, n5]; simp; omega
    mod := by rw [n5]; omega
    three := by rw [n5]; omega
    inn := fun p hp => by
      rcases hcase p hp with e | e
      · rw [n1 p e.1]; exact h.inn p e
      · rw [e, n4]; exact ⟨by omega, by dsimp only; omega⟩
    two := by rw [n1 2 (by omega)]; exact h.two
    kidl := fun p hp => by
      rw [n5]
      rcases hcase p hp with e | e
      · rw [hleft p e, hkid]; have := h.kidl p e; exact ⟨by omega, this.2⟩
      · rw [e, kl]; omega
    kidr := fun p hp => by
      rw [n5]
      rcases hcase p hp with e | e
      · rw [hright p e, hkid]; have := h.kidr p e; exact ⟨by omega, this.2⟩
      · rw [e, kr]; omega
    finr := fun p hp hf => by
      rcases hcase p hp with e | e
      · rw [hright p e, hkid, n1 _ (h.kidr p e).1]; rw [n1 p e.1] at hf; exact h.finr p e hf
      · rw [e, kr, n3]; rw [e, n4] at hf; exact hf
    fin2 := by rw [hleft 2 h.inn2, hkid, n1 _ (h.kidl 2 h.inn2).1]; exact h.fin2
    isu := by
      rw [hms]
      intro x hx
      rcases List.mem_append.1 hx with hx | hx
      · exact h.isu x hx
      · have := (List.mem_replicate.1 hx).2; subst this; unfold IsU; omega
    wks := fun i h0 hi => by
      rw [hwk]
      obtain ⟨g1, g2, g3, g4⟩ := h.wks i h0 hi
      refine ⟨hinn _ g1, by rw [n5]; omega, fun q hq => ?_, ?_⟩
      · obtain ⟨e1, e2, e3⟩ := g3 q hq
        exact ⟨by rw [n5]; omega, e2, by rw [n1 q e1, n1 _ g2]; exact e3⟩
      · rcases g4 with g | ⟨e1, e2, e3⟩
        · exact Or.inl g
        · exact Or.inr ⟨e1, hinn _ e2, e3⟩
    live := h.live
    word := fun p hp => by
      rw [hat]
      rcases hcase p hp with e | e
      · have e2 : (t.join low high).word p = t.word p := by unfold Tr.word; rw [n1 p e.1]
        rw [e2]; exact hwd _ (h.word p e)
      · have e2 : t.ms.at ((t.join low high).word p) = 0 := by unfold Tr.word; rw [e, n4]; exact hout _ (by dsimp only; omega)
        rw [e2]
        exact ⟨by simp, fun h => by simp at h⟩
    word2 := by
      have e2 : (t.join low high).word 2 = t.word 2 := by unfold Tr.word; rw [n1 2 (by omega)]
      rw [hat, e2]; exact h.word2 }
theorem leafs {t : Tr} {l : Nat} (hl : (t.nd l).inner = false) (k : ByteArray) (v : Int) : (lowN t l k v).inner = false ∧ (highN t l k v).inner = false := by
  unfold lowN highN
  split
  · exact ⟨rfl, hl⟩
  · exact ⟨hl, rfl⟩
theorem high_fin {t : Tr} {l : Nat} (k : ByteArray) (v : Int) (hf : (t.nd l).fin = true) : (highN t l k v).fin = true := by
  unfold highN
  have : (t.nd l).above k = true := by unfold Nd.above; rw [hf]; rfl
  rw [if_pos this]; exact hf
theorem TI.split (h : TI t) {l : Nat} (hl : (t.nd l).inner = false) (k : ByteArray) (v : Int) (hroom : t.room = true) : TI (t.split l k v) := by
  rw [split_eq]
  obtain ⟨h1, h2⟩ := leafs hl k v
  exact h.join h1 h2 hroom
/-- a work is begun, and the nodes are made, this way or that -/
theorem begin_split {o : Wk} {seen : Int} {l : Nat} {k : ByteArray} {v : Int} (hc : t.ms.casB (t.word o.at_) seen = true) (ha : o.at_ < t.ns.length) (hroom : t.room = true) : (t.begin o seen).split l k v = (t.split l k v).begin o seen ∧ (t.split l k v).ms.casB ((t.split l k v).word o.at_) seen = true := by
  have hr3 : t.ms.c.length ≤ 65533 := by unfold Tr.room at hroom; exact of_decide_eq_true hroom
  have hg : t.ms.growOk 3 = true := by unfold MS.growOk; apply decide_eq_true; omega
  obtain ⟨n1, _⟩ := join_nd (t := t) (lo := lowN t l k v) (hi := highN t l k v)
  have hwd : (t.split l k v).word o.at_ = t.word o.at_ := by rw [split_eq]; unfold Tr.word; rw [n1 _ ha]
  have hh : t.ms.has (t.word o.at_) = true := by unfold MS.casB at hc; rw [Bool.and_eq_true] at hc; exact hc.1
  have he : t.ms.at (t.word o.at_) = seen := by unfold MS.casB at hc; rw [Bool.and_eq_true] at hc; exact of_decide_eq_true hc.2
  obtain ⟨w, hw⟩ : ∃ w, w = t.word o.at_ := ⟨_, rfl⟩
  rw [← hw] at hh he hc
  have hms : (t.split l k v).ms = t.ms.grow 3 := by rw [split_eq]; rfl
  have hc2 : (t.split l k v).ms.casB ((t.split l k v).word o.at_) seen = true := by rw [hwd, hms, ← hw]; exact casB_of (grow_has _ _ _ hh) (by rw [MS.at_grow]; exact he)
  refine ⟨?_, hc2⟩
  rw [begin_ok hc2, begin_ok (by rw [← hw]; exact hc), split_eq, split_eq]
  rw [split_eq] at hwd
  rw [hwd, ← hw]
  have hw2 : (t.split l k v).ws = t.ws := (split_same t l k v).1
  rw [split_eq] at hw2
  have hcom : ∀ x, (t.ms.cas w seen x).grow 3 = (t.ms.grow 3).cas w seen x := fun x => by
    obtain ⟨q, hq, hql⟩ := MS.has_true hh
    have hq' : w.toNat = q := by rw [hq]; rfl
    have e1 : t.ms.cas w seen x = ⟨t.ms.c.set q x, t.ms.n + 1⟩ := by unfold MS.cas MS.put; rw [if_pos he, if_pos hh, hq']
    have e2 : t.ms.grow 3 = ⟨t.ms.c ++ List.replicate 3 0, t.ms.n⟩ := by unfold MS.grow; rw [if_pos hg]; rfl
    have hg2 : (⟨t.ms.c.set q x, t.ms.n + 1⟩ : MS).growOk 3 = true := by unfold MS.growOk; apply decide_eq_true; simp; omega
    have hh2 : (t.ms.grow 3).has w = true := grow_has _ _ _ hh
    have he2 : (t.ms.grow 3).at w = seen := by rw [MS.at_grow]; exact he
    rw [e1]
    unfold MS.cas MS.put
    rw [if_pos he2, if_pos hh2, e2, hq']
    unfold MS.grow
    rw [if_pos hg2]
    dsimp only
    rw [List.set_append_left _ _ hql]
    rfl
  have hlen : (t.ms.cas w seen (packW o.state ((t.ws.length : Int) + 1))).c.length = t.ms.c.length := MS.cas_len ..
  unfold Tr.join Tr.start Tr.cas
  dsimp only
  rw [hcom, hlen]
  rfl
end
end Go.Proofs.Ythiobdhdefimhaa
