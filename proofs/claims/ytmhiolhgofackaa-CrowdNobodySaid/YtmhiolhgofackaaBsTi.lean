/- PACKAGE bst, PLAINLY: what holds of a tree between any two steps, whoever steps
PACKAGE bst, PLAINLY: what holds of a call between any two steps, whoever steps
PACKAGE bst, PLAINLY: each step keeps what holds, whoever steps -/
import Derived.Test.YtmhiolhgofackaaBsQ
import Derived.Test.YtmhiolhgofackaaBsOp
namespace Go.Proofs.Ytmhiolhgofackaa
open Go.RowKit
set_option linter.unusedVariables false
set_option linter.unusedSimpArgs false

def Inn (t : Tr) (p : Nat) : Prop := p < t.ns.length ∧ (t.nd p).inner = true
def NxOk (t : Tr) (old q : Nat) : Prop := q < t.ns.length ∧ q ≠ 2 ∧ ((t.nd old).fin = true → (t.nd q).fin = true)
structure WkT (t : Tr) (o : Wk) : Prop where
  at_ : Inn t o.at_
  old : o.old < t.ns.length
  nxt : ∀ q, o.next = some q → NxOk t o.old q
  kind : (o.state = 1 ∧ ∃ q, o.next = some q) ∨ (o.state = 2 ∧ Inn t o.old ∧ o.old ≠ 2)
def WdOk (t : Tr) (x : Int) : Prop := x / 4 ≤ t.ws.length ∧ (1 ≤ x / 4 → (x % 4 = 1 → (t.wk (x / 4).toNat).state = 1) ∧ (x % 4 = 2 ∨ x % 4 = 3 → (t.wk (x / 4).toNat).state = 2))
structure TI (t : Tr) : Prop where
  len : t.ms.c.length = t.ns.length
  mod : t.ns.length % 3 = 0
  three : 3 ≤ t.ns.length
  inn : ∀ p, Inn t p → p % 3 = 2 ∧ (t.nd p).cell = (p : Int) - 2
  two : (t.nd 2).inner = true ∧ (t.nd 2).fin = true
  kidl : ∀ p, Inn t p → t.kid (t.left p) < t.ns.length ∧ t.kid (t.left p) ≠ 2
  kidr : ∀ p, Inn t p → t.kid (t.right p) < t.ns.length ∧ t.kid (t.right p) ≠ 2
  finr : ∀ p, Inn t p → (t.nd p).fin = true → (t.nd (t.kid (t.right p))).fin = true
  fin2 : (t.nd (t.kid (t.left 2))).fin = true
  isu : ∀ x ∈ t.ms.c, IsU x
  wks : ∀ i, 1 ≤ i → i ≤ t.ws.length → WkT t (t.wk i)
  live : ∀ i, t.live i = true → 1 ≤ i ∧ i ≤ t.ws.length
  word : ∀ p, Inn t p → WdOk t (t.ms.at (t.word p))
  word2 : t.ms.at (t.word 2) % 4 ≠ 3
section
variable {t : Tr}
theorem TI.inn2 (h : TI t) : Inn t 2 := ⟨by have := h.three; omega, h.two.1⟩
theorem TI.nd (h : TI t) (hl : t.ns.length ≤ 65536) {p : Nat} (hp : Inn t p) : NdOk t p := by
  obtain ⟨h1, h2⟩ := h.inn p hp
  exact ⟨hp.1, by omega, by have := hp.1; omega, by rw [h2]; omega, by rw [h2]; have := hp.1; omega⟩
theorem TI.wordE (h : TI t) {p : Nat} (hp : Inn t p) : t.word p = (p : Int) - 2 := (h.inn p hp).2
theorem TI.leftE (h : TI t) {p : Nat} (hp : Inn t p) : t.left p = ⟨(p : Int) - 1, (p : Int) - 2⟩ := by unfold Tr.left; rw [(h.inn p hp).2]; congr 1; omega
theorem TI.rightE (h : TI t) {p : Nat} (hp : Inn t p) : t.right p = ⟨(p : Int), (p : Int) - 1⟩ := by unfold Tr.right; rw [(h.inn p hp).2]; congr 1; omega
theorem TI.mem (h : TI t) (m : MS) (hl : m.c.length = t.ms.c.length) (hu : ∀ x ∈ m.c, IsU x)
    (hk : ∀ p, Inn t p → ({ t with ms := m } : Tr).kid (t.left p) = t.kid (t.left p) ∨ NxOk t (t.kid (t.left p)) (({ t with ms := m } : Tr).kid (t.left p)))
    (hr : ∀ p, Inn t p → ({ t with ms := m } : Tr).kid (t.right p) = t.kid (t.right p) ∨ NxOk t (t.kid (t.right p)) (({ t with ms := m } : Tr).kid (t.right p)))
    (hw : ∀ p, Inn t p → WdOk t (m.at (t.word p))) (h2 : m.at (t.word 2) % 4 ≠ 3) : TI { t with ms := m } where
  len := hl.trans h.len
  mod := h.mod
  three := h.three
  inn := h.inn
  two := h.two
  kidl p hp := by
    show ({ t with ms := m } : Tr).kid (t.left p) < t.ns.length ∧ ({ t with ms := m } : Tr).kid (t.left p) ≠ 2
    rcases hk p hp with e | e
    · rw [e]; exact h.kidl p hp
    · exact ⟨e.1, e.2.1⟩
  kidr p hp := by
    show ({ t with ms := m } : Tr).kid (t.right p) < t.ns.length ∧ ({ t with ms := m } : Tr).kid (t.right p) ≠ 2
    rcases hr p hp with e | e
    · rw [e]; exact h.kidr p hp
    · exact ⟨e.1, e.2.1⟩
  finr p hp hf := by
    show (t.nd (({ t with ms := m } : Tr).kid (t.right p))).fin = true
    rcases hr p hp with e | e
    · rw [e]; exact h.finr p hp hf
    · exact e.2.2 (h.finr p hp hf)
  fin2 := by
    show (t.nd (({ t with ms := m } : Tr).kid (t.left 2))).fin = true
    rcases hk 2 h.inn2 with e | e
    · rw [e]; exact h.fin2
    · exact e.2.2 h.fin2
  isu := hu
  wks := fun i h0 hi => by have := h.wks i h0 hi; exact ⟨this.at_, this.old, this.nxt, this.kind⟩
  live := h.live
  word := hw
  word2 := h2
theorem kid_at {t : Tr} {m : MS} {b : Br} (h : m.at b.cell = t.ms.at b.cell) : ({ t with ms := m } : Tr).kid b = t.kid b := by
  unfold Tr.kid; rw [h]
theorem TI.same (h : TI t) (m : MS) (hl : m.c.length = t.ms.c.length) (hu : ∀ x ∈ m.c, IsU x) (ha : ∀ x, m.at x = t.ms.at x) : TI { t with ms := m } :=
  h.mem m hl hu (fun p _ => Or.inl (kid_at (ha _))) (fun p _ => Or.inl (kid_at (ha _))) (fun p hp => by rw [ha]; exact h.word p hp) (by rw [ha]; exact h.word2)
theorem MS.ask_mem {m : MS} {a : Int} (h : ∀ x ∈ m.c, IsU x) : ∀ x ∈ (m.ask a).c, IsU x := by unfold MS.ask; split <;> exact h
theorem TI.ask (h : TI t) (c : Int) : TI (t.ask c) := h.same _ (MS.ask_len _ _) (MS.ask_mem h.isu) (fun x => MS.at_ask _ _ _)
theorem TI.cas0 (h : TI t) {a o v : Int} (hv : IsU v) (hc : t.ms.casB a o = false) : TI (t.cas a o v) := h.same _ (MS.cas_len _ _ _ _) (MS.cas_mem hv h.isu) (fun x => by rw [MS.at_cas, if_neg (fun e => by rw [hc] at e; cases e.2)])
/-- cells of nodes are apart -/
theorem TI.left_word (h : TI t) {p q : Nat} (hp : Inn t p) (hq : Inn t q) : (t.left p).cell ≠ t.word q := by
  rw [h.leftE hp, h.wordE hq]; have := (h.inn p hp).1; have := (h.inn q hq).1; dsimp only; omega
theorem TI.right_word (h : TI t) {p q : Nat} (hp : Inn t p) (hq : Inn t q) : (t.right p).cell ≠ t.word q := by
  rw [h.rightE hp, h.wordE hq]; have := (h.inn p hp).1; have := (h.inn q hq).1; dsimp only; omega
theorem TI.word_word (h : TI t) {p q : Nat} (hp : Inn t p) (hq : Inn t q) (e : t.word p = t.word q) : p = q := by
  rw [h.wordE hp, h.wordE hq] at e; omega
theorem cas_off {m : MS} {a o v x : Int} (h : x ≠ a) : (m.cas a o v).at x = m.at x := by rw [MS.at_cas, if_neg (fun e => h e.1)]
theorem cas_on {m : MS} (P : Int → Prop) {a o v x : Int} (h : P (m.at x)) (hv : x = a → P v) : P ((m.cas a o v).at x) := by
  rw [MS.at_cas]; split
  · rename_i e; exact hv e.1
  · exact h
theorem TI.wcas (h : TI t) {p0 : Nat} (hp : Inn t p0) (o v : Int) (hv : WdOk t v) (hu : IsU v) (h2 : p0 = 2 → v % 4 ≠ 3) : TI (t.cas (t.word p0) o v) :=
  h.mem _ (MS.cas_len _ _ _ _) (MS.cas_mem hu h.isu) (fun p hq => Or.inl (kid_at (cas_off (h.left_word hq hp)))) (fun p hq => Or.inl (kid_at (cas_off (h.right_word hq hp))))
    (fun p hq => cas_on (WdOk t) (h.word p hq) (fun _ => hv)) (cas_on (fun x => x % 4 ≠ 3) h.word2 (fun e => h2 (h.word_word h.inn2 hp e).symm))
theorem toward_or (t : Tr) (p : Nat) (k : ByteArray) : t.toward p k = t.left p ∨ t.toward p k = t.right p := by
  unfold Tr.toward; split
  · exact Or.inl rfl
  · exact Or.inr rfl
theorem beside_or (t : Tr) (p : Nat) (k : ByteArray) : t.beside p k = t.left p ∨ t.beside p k = t.right p := by
  unfold Tr.beside; split
  · exact Or.inr rfl
  · exact Or.inl rfl
theorem turn_kid {b b' : Br} {old nx : Nat} (ho : old < 18446744073709551616) (hn : nx < 18446744073709551616) (he : b'.cell = b.cell → b' = b) :
    ({ t with ms := t.ms.cas b.cell (u64 (old - b.first)) (u64 (nx - b.first)) } : Tr).kid b' = t.kid b' ∨ (t.kid b' = old ∧ ({ t with ms := t.ms.cas b.cell (u64 (old - b.first)) (u64 (nx - b.first)) } : Tr).kid b' = nx) := by
  by_cases hc : b'.cell = b.cell ∧ t.ms.casB b.cell (u64 (old - b.first)) = true
  · have := he hc.1
    subst this
    refine Or.inr ⟨kid_new ho ?_, kid_new hn ?_⟩
    · have := hc.2
      unfold MS.casB at this
      rw [Bool.and_eq_true] at this
      exact of_decide_eq_true this.2
    · show (t.ms.cas b'.cell _ _).at b'.cell = _
      rw [MS.at_cas, if_pos ⟨rfl, hc.2⟩]
  · exact Or.inl (kid_at (by rw [MS.at_cas, if_neg hc]))
theorem TI.turn (h : TI t) {a : Nat} (ha : Inn t a) (k : ByteArray) {old nx : Nat} (ho : old < t.ns.length) (hn : NxOk t old nx) (hl : t.ns.length ≤ 65536) : TI (t.turn (t.toward a k) old nx) := by
  obtain ⟨b, hb⟩ : ∃ b, b = t.toward a k := ⟨_, rfl⟩
  rw [← hb]
  have hb2 : b = t.left a ∨ b = t.right a := by rw [hb]; exact toward_or t a k
  have hnl := hn.1
  have a1 := (h.inn a ha).1
  have hne : ∀ p, Inn t p → t.word p ≠ b.cell := fun p hp e => by
    rcases hb2 with r | r
    · rw [r] at e; exact h.left_word ha hp e.symm
    · rw [r] at e; exact h.right_word ha hp e.symm
  refine h.mem _ (MS.cas_len _ _ _ _) (MS.cas_mem (isU_u64 _) h.isu) (fun p hp => ?_) (fun p hp => ?_) (fun p hp => by rw [cas_off (hne p hp)]; exact h.word p hp) (by rw [cas_off (hne 2 h.inn2)]; exact h.word2)
  · have p1 := (h.inn p hp).1
    rcases turn_kid (t := t) (b := b) (b' := t.left p) (old := old) (nx := nx) (by omega) (by omega) (fun e => by
      rcases hb2 with r | r
      · rw [r, h.leftE hp, h.leftE ha] at e ⊢; dsimp only at e; have : p = a := by omega
        rw [this]
      · rw [r, h.leftE hp, h.rightE ha] at e; dsimp only at e; omega) with e | ⟨e1, e2⟩
    · exact Or.inl e
    · right; rw [e1, e2]; exact hn
  · have p1 := (h.inn p hp).1
    rcases turn_kid (t := t) (b := b) (b' := t.right p) (old := old) (nx := nx) (by omega) (by omega) (fun e => by
      rcases hb2 with r | r
      · rw [r, h.rightE hp, h.leftE ha] at e; dsimp only at e; omega
      · rw [r, h.rightE hp, h.rightE ha] at e ⊢; dsimp only at e; have : p = a := by omega
        rw [this]) with e | ⟨e1, e2⟩
    · exact Or.inl e
    · right; rw [e1, e2]; exact hn
theorem packW_div {s : Int} {i : Nat} (hs : 0 ≤ s ∧ s ≤ 3) (hi : i ≤ 1000000000) : packW s (i : Int) / 4 = i ∧ packW s (i : Int) % 4 = s := by
  unfold packW; omega
theorem wk_start {o : Wk} {i : Nat} (h0 : 1 ≤ i) (hi : i ≤ t.ws.length) : (t.start o).wk i = t.wk i := by
  unfold Tr.wk Tr.start
  simp only [List.getD_eq_getElem?_getD]
  rw [List.getElem?_append_left (by omega)]
theorem wk_last {o : Wk} : (t.start o).wk (t.ws.length + 1) = o := by
  unfold Tr.wk Tr.start
  simp [List.getD_eq_getElem?_getD]
theorem WdOk.start {o : Wk} {x : Int} (h : WdOk t x) (hx : 0 ≤ x) : WdOk (t.start o) x := by
  obtain ⟨h1, h2⟩ := h
  have hw : (t.start o).ws.length = t.ws.length + 1 := by simp [Tr.start]
  refine ⟨by rw [hw]; omega, fun h0 => ?_⟩
  rw [wk_start (by omega) (by omega)]
  exact h2 h0
theorem TI.begin (h : TI t) {o : Wk} (seen : Int) (ho : WkT t o) (hw : t.ws.length ≤ 900000000) : TI (t.begin o seen) := by
  have hst : 0 ≤ o.state ∧ o.state ≤ 3 := by rcases ho.kind with ⟨h1, _⟩ | ⟨h1, _⟩ <;> omega
  have hpk := packW_div hst (show t.ws.length + 1 ≤ 1000000000 by omega)
  cases hc : t.ms.casB (t.word o.at_) seen with
  | false => rw [begin_no hc]; exact h.cas0 (isU_packW _ _) hc
  | true =>
    rw [begin_ok hc]
    obtain ⟨v, hv⟩ : ∃ v, v = packW o.state ((t.ws.length : Int) + 1) := ⟨_, rfl⟩
    rw [← hv]
    have hv' : v / 4 = (t.ws.length + 1 : Nat) ∧ v % 4 = o.state := by rw [hv]; exact_mod_cast hpk
    have hu : IsU v := by rw [hv]; exact isU_packW _ _
    have hlen : ((t.cas (t.word o.at_) seen v).start o).ws.length = t.ws.length + 1 := by simp [Tr.start, Tr.cas]
    have hvW : WdOk ((t.cas (t.word o.at_) seen v).start o) v := by
      refine ⟨by rw [hlen, hv'.1]; omega, fun _ => ?_⟩
      have e : (v / 4).toNat = (t.cas (t.word o.at_) seen v).ws.length + 1 := by rw [hv'.1]; rfl
      rw [e, wk_last, hv'.2]
      rcases ho.kind with ⟨h1, _⟩ | ⟨h1, _⟩ <;> rw [h1] <;> simp
    have hkl : ∀ p, Inn t p → ((t.cas (t.word o.at_) seen v).start o).kid (t.left p) = t.kid (t.left p) := fun p hp => kid_at (m := t.ms.cas (t.word o.at_) seen v) (cas_off (h.left_word hp ho.at_))
    have hkr : ∀ p, Inn t p → ((t.cas (t.word o.at_) seen v).start o).kid (t.right p) = t.kid (t.right p) := fun p hp => kid_at (m := t.ms.cas (t.word o.at_) seen v) (cas_off (h.right_word hp ho.at_))
    exact {
      len := (MS.cas_len _ _ _ _).trans h.len
      mod := h.mod
      three := h.three
      inn := h.inn
      two := h.two
      kidl := fun p hp => by have := h.kidl p hp; rw [← hkl p hp] at this; exact this
      kidr := fun p hp => by have := h.kidr p hp; rw [← hkr p hp] at this; exact this
      finr := fun p hp hf => by have := h.finr p hp hf; rw [← hkr p hp] at this; exact this
      fin2 := by have := h.fin2; rw [← hkl 2 h.inn2] at this; exact this
      isu := MS.cas_mem hu h.isu
      wks := fun i h0 hi => by
        rw [hlen] at hi
        by_cases e : i = t.ws.length + 1
        · have e2 : ((t.cas (t.word o.at_) seen v).start o).wk i = o := by rw [e]; exact wk_last (t := t.cas (t.word o.at_) seen v)
          rw [e2]; exact ⟨ho.at_, ho.old, ho.nxt, ho.kind⟩
        · have e2 : ((t.cas (t.word o.at_) seen v).start o).wk i = t.wk i := wk_start (t := t.cas (t.word o.at_) seen v) h0 (by show i ≤ t.ws.length; omega)
          rw [e2]
          have := h.wks i h0 (by omega)
          exact ⟨this.at_, this.old, this.nxt, this.kind⟩
      live := fun i hi => by
        rw [hlen]
        have hi' : (if i = t.ws.length + 1 then true else t.live i) = true := hi
        split at hi'
        · omega
        · have := h.live i hi'; omega
      word := fun p hp => by
        refine cas_on (WdOk ((t.cas (t.word o.at_) seen v).start o)) (m := t.ms) ?_ (fun _ => hvW)
        exact WdOk.start (t := t.cas (t.word o.at_) seen v) (h.word p hp) (isU_at h.isu _).1
      word2 := cas_on (fun x => x % 4 ≠ 3) (m := t.ms) h.word2 (fun _ => by rw [hv'.2]; rcases ho.kind with ⟨h1, _⟩ | ⟨h1, _⟩ <;> rw [h1] <;> omega) }
theorem TI.done (h : TI t) (o : Nat) : TI { t with live := fun i => if i = o then false else t.live i } where
  len := h.len
  mod := h.mod
  three := h.three
  inn := h.inn
  two := h.two
  kidl := h.kidl
  kidr := h.kidr
  finr := h.finr
  fin2 := h.fin2
  isu := h.isu
  wks := fun i h0 hi => by have := h.wks i h0 hi; exact ⟨this.at_, this.old, this.nxt, this.kind⟩
  live := fun i hi => by
    have hi' : (if i = o then false else t.live i) = true := hi
    split at hi'
    · cases hi'
    · exact h.live i hi'
  word := h.word
  word2 := h.word2
theorem TI.join (h : TI t) {low high : Nd} (hl : low.inner = false) (hh : high.inner = false) (hroom : t.room = true) : TI (t.join low high) := by
  obtain ⟨n1, n2, n3, n4, n5⟩ := join_nd (t := t) (lo := low) (hi := high)
  have hr3 : t.ms.c.length ≤ 65533 := by unfold Tr.room at hroom; exact of_decide_eq_true hroom
  have hlen := h.len
  have hg : t.ms.growOk 3 = true := by unfold MS.growOk; apply decide_eq_true; omega
  have hms : (t.join low high).ms = ⟨t.ms.c ++ List.replicate 3 0, t.ms.n⟩ := by
    show t.ms.grow 3 = _
    unfold MS.grow; rw [if_pos hg]; rfl
  have hat : ∀ x, (t.join low high).ms.at x = t.ms.at x := fun x => MS.at_grow _ _ _
  have hws : (t.join low high).ws = t.ws := rfl
  have hwk : ∀ i, (t.join low high).wk i = t.wk i := fun _ => rfl
  have hinn : ∀ p, Inn t p → Inn (t.join low high) p := fun p hp => ⟨by rw [n5]; have := hp.1; omega, by rw [n1 p hp.1]; exact hp.2⟩
  have hcase : ∀ p, Inn (t.join low high) p → Inn t p ∨ p = t.ns.length + 2 := fun p hp => by
    obtain ⟨h1, h2⟩ := hp
    rw [n5] at h1
    by_cases e : p < t.ns.length
    · rw [n1 p e] at h2; exact Or.inl ⟨e, h2⟩
    · by_cases e0 : p = t.ns.length
      · rw [e0, n2, hl] at h2; cases h2
      · by_cases e1 : p = t.ns.length + 1
        · rw [e1, n3, hh] at h2; cases h2
        · right; omega
  have hleft : ∀ p, Inn t p → (t.join low high).left p = t.left p := fun p hp => by unfold Tr.left; rw [n1 p hp.1]
  have hright : ∀ p, Inn t p → (t.join low high).right p = t.right p := fun p hp => by unfold Tr.right; rw [n1 p hp.1]
  have hkid : ∀ b, (t.join low high).kid b = t.kid b := fun b => by unfold Tr.kid; rw [hat]
  have hout : ∀ x : Int, (t.ns.length : Int) ≤ x → t.ms.at x = 0 := fun x hx => at_has (by unfold MS.has; apply decide_eq_false; omega)
  have hm := h.mod
  have h3 := h.three
  have kl : (t.join low high).kid ((t.join low high).left (t.ns.length + 2)) = t.ns.length := by
    rw [hkid]
    unfold Tr.left Tr.kid
    rw [n4]
    dsimp only
    rw [hout _ (by omega)]
    omega
  have kr : (t.join low high).kid ((t.join low high).right (t.ns.length + 2)) = t.ns.length + 1 := by
    rw [hkid]
    unfold Tr.right Tr.kid
    rw [n4]
    dsimp only
    rw [hout _ (by omega)]
    omega
  have hwd : ∀ x, WdOk t x → WdOk (t.join low high) x := fun x hx => hx
  exact {
    len := by rw [hms, n5]; simp; omega
    mod := by rw [n5]; omega
    three := by rw [n5]; omega
    inn := fun p hp => by
      rcases hcase p hp with e | e
      · rw [n1 p e.1]; exact h.inn p e
      · rw [e, n4]; exact ⟨by omega, by dsimp only; omega⟩
    two := by rw [n1 2 (by omega)]; exact h.two
    kidl := fun p hp => by
      rw [n5]
      rcases hcase p hp with e | e
      · rw [hleft p e, hkid]; have := h.kidl p e; exact ⟨by omega, this.2⟩
      · rw [e, kl]; omega
    kidr := fun p hp => by
      rw [n5]
      rcases hcase p hp with e | e
      · rw [hright p e, hkid]; have := h.kidr p e; exact ⟨by omega, this.2⟩
      · rw [e, kr]; omega
    finr := fun p hp hf => by
      rcases hcase p hp with e | e
      · rw [hright p e, hkid, n1 _ (h.kidr p e).1]; rw [n1 p e.1] at hf; exact h.finr p e hf
      · rw [e, kr, n3]; rw [e, n4] at hf; exact hf
    fin2 := by rw [hleft 2 h.inn2, hkid, n1 _ (h.kidl 2 h.inn2).1]; exact h.fin2
    isu := by
      rw [hms]
      intro x hx
      rcases List.mem_append.1 hx with hx | hx
      · exact h.isu x hx
      · have := (List.mem_replicate.1 hx).2; subst this; unfold IsU; omega
    wks := fun i h0 hi => by
      rw [hwk]
      obtain ⟨g1, g2, g3, g4⟩ := h.wks i h0 hi
      refine ⟨hinn _ g1, by rw [n5]; omega, fun q hq => ?_, ?_⟩
      · obtain ⟨e1, e2, e3⟩ := g3 q hq
        exact ⟨by rw [n5]; omega, e2, by rw [n1 q e1, n1 _ g2]; exact e3⟩
      · rcases g4 with g | ⟨e1, e2, e3⟩
        · exact Or.inl g
        · exact Or.inr ⟨e1, hinn _ e2, e3⟩
    live := h.live
    word := fun p hp => by
      rw [hat]
      rcases hcase p hp with e | e
      · have e2 : (t.join low high).word p = t.word p := by unfold Tr.word; rw [n1 p e.1]
        rw [e2]; exact hwd _ (h.word p e)
      · have e2 : t.ms.at ((t.join low high).word p) = 0 := by unfold Tr.word; rw [e, n4]; exact hout _ (by dsimp only; omega)
        rw [e2]
        exact ⟨by simp, fun h => by simp at h⟩
    word2 := by
      have e2 : (t.join low high).word 2 = t.word 2 := by unfold Tr.word; rw [n1 2 (by omega)]
      rw [hat, e2]; exact h.word2 }
theorem leafs {t : Tr} {l : Nat} (hl : (t.nd l).inner = false) (k : ByteArray) (v : Int) : (lowN t l k v).inner = false ∧ (highN t l k v).inner = false := by
  unfold lowN highN
  split
  · exact ⟨rfl, hl⟩
  · exact ⟨hl, rfl⟩
theorem high_fin {t : Tr} {l : Nat} (k : ByteArray) (v : Int) (hf : (t.nd l).fin = true) : (highN t l k v).fin = true := by
  unfold highN
  have : (t.nd l).above k = true := by unfold Nd.above; rw [hf]; rfl
  rw [if_pos this]; exact hf
theorem TI.split (h : TI t) {l : Nat} (hl : (t.nd l).inner = false) (k : ByteArray) (v : Int) (hroom : t.room = true) : TI (t.split l k v) := by
  rw [split_eq]
  obtain ⟨h1, h2⟩ := leafs hl k v
  exact h.join h1 h2 hroom
/-- a work is begun, and the nodes are made, this way or that -/
theorem begin_split {o : Wk} {seen : Int} {l : Nat} {k : ByteArray} {v : Int} (hc : t.ms.casB (t.word o.at_) seen = true) (ha : o.at_ < t.ns.length) (hroom : t.room = true) : (t.begin o seen).split l k v = (t.split l k v).begin o seen ∧ (t.split l k v).ms.casB ((t.split l k v).word o.at_) seen = true := by
  have hr3 : t.ms.c.length ≤ 65533 := by unfold Tr.room at hroom; exact of_decide_eq_true hroom
  have hg : t.ms.growOk 3 = true := by unfold MS.growOk; apply decide_eq_true; omega
  obtain ⟨n1, _⟩ := join_nd (t := t) (lo := lowN t l k v) (hi := highN t l k v)
  have hwd : (t.split l k v).word o.at_ = t.word o.at_ := by rw [split_eq]; unfold Tr.word; rw [n1 _ ha]
  have hh : t.ms.has (t.word o.at_) = true := by unfold MS.casB at hc; rw [Bool.and_eq_true] at hc; exact hc.1
  have he : t.ms.at (t.word o.at_) = seen := by unfold MS.casB at hc; rw [Bool.and_eq_true] at hc; exact of_decide_eq_true hc.2
  obtain ⟨w, hw⟩ : ∃ w, w = t.word o.at_ := ⟨_, rfl⟩
  rw [← hw] at hh he hc
  have hms : (t.split l k v).ms = t.ms.grow 3 := by rw [split_eq]; rfl
  have hc2 : (t.split l k v).ms.casB ((t.split l k v).word o.at_) seen = true := by rw [hwd, hms, ← hw]; exact casB_of (grow_has _ _ _ hh) (by rw [MS.at_grow]; exact he)
  refine ⟨?_, hc2⟩
  rw [begin_ok hc2, begin_ok (by rw [← hw]; exact hc), split_eq, split_eq]
  rw [split_eq] at hwd
  rw [hwd, ← hw]
  have hw2 : (t.split l k v).ws = t.ws := (split_same t l k v).1
  rw [split_eq] at hw2
  have hcom : ∀ x, (t.ms.cas w seen x).grow 3 = (t.ms.grow 3).cas w seen x := fun x => by
    obtain ⟨q, hq, hql⟩ := MS.has_true hh
    have hq' : w.toNat = q := by rw [hq]; rfl
    have e1 : t.ms.cas w seen x = ⟨t.ms.c.set q x, t.ms.n + 1⟩ := by unfold MS.cas MS.put; rw [if_pos he, if_pos hh, hq']
    have e2 : t.ms.grow 3 = ⟨t.ms.c ++ List.replicate 3 0, t.ms.n⟩ := by unfold MS.grow; rw [if_pos hg]; rfl
    have hg2 : (⟨t.ms.c.set q x, t.ms.n + 1⟩ : MS).growOk 3 = true := by unfold MS.growOk; apply decide_eq_true; simp; omega
    have hh2 : (t.ms.grow 3).has w = true := grow_has _ _ _ hh
    have he2 : (t.ms.grow 3).at w = seen := by rw [MS.at_grow]; exact he
    rw [e1]
    unfold MS.cas MS.put
    rw [if_pos he2, if_pos hh2, e2, hq']
    unfold MS.grow
    rw [if_pos hg2]
    dsimp only
    rw [List.set_append_left _ _ hql]
    rfl
  have hlen : (t.ms.cas w seen (packW o.state ((t.ws.length : Int) + 1))).c.length = t.ms.c.length := MS.cas_len ..
  unfold Tr.join Tr.start Tr.cas
  dsimp only
  rw [hcom, hlen]
  rfl
end
end Go.Proofs.Ytmhiolhgofackaa
namespace Go.Proofs.Ytmhiolhgofackaa
open Go.RowKit
set_option linter.unusedVariables false
set_option linter.unusedSimpArgs false

/-- nodes and works come, and stay as they are -/
structure Gr (t t' : Tr) : Prop where
  nl : t.ns.length ≤ t'.ns.length
  nd : ∀ p, p < t.ns.length → t'.nd p = t.nd p
  wl : t.ws.length ≤ t'.ws.length
  wk : ∀ i, 1 ≤ i → i ≤ t.ws.length → t'.wk i = t.wk i
theorem Gr.refl (t : Tr) : Gr t t := ⟨Nat.le_refl _, fun _ _ => rfl, Nat.le_refl _, fun _ _ _ => rfl⟩
theorem Gr.trans {a b c : Tr} (h : Gr a b) (k : Gr b c) : Gr a c := ⟨Nat.le_trans h.nl k.nl, fun p hp => (k.nd p (Nat.lt_of_lt_of_le hp h.nl)).trans (h.nd p hp), Nat.le_trans h.wl k.wl, fun i h0 hi => (k.wk i h0 (Nat.le_trans hi h.wl)).trans (h.wk i h0 hi)⟩
theorem Gr.of {t t' : Tr} (hn : t'.ns = t.ns) (hw : t'.ws = t.ws) : Gr t t' := ⟨by rw [hn]; exact Nat.le_refl _, fun p _ => by unfold Tr.nd; rw [hn], by rw [hw]; exact Nat.le_refl _, fun i _ _ => by unfold Tr.wk; rw [hw]⟩
theorem Gr.inn {t t' : Tr} (h : Gr t t') {p : Nat} (hp : Inn t p) : Inn t' p := ⟨Nat.lt_of_lt_of_le hp.1 h.nl, by rw [h.nd p hp.1]; exact hp.2⟩
theorem Gr.nx {t t' : Tr} (h : Gr t t') {o q : Nat} (ho : o < t.ns.length) (hp : NxOk t o q) : NxOk t' o q := ⟨Nat.lt_of_lt_of_le hp.1 h.nl, hp.2.1, by rw [h.nd o ho, h.nd q hp.1]; exact hp.2.2⟩
def OI (t : Tr) (o : Nat) : Prop := 1 ≤ o ∧ o ≤ t.ws.length
def Upd (c : Cl) : Prop := c.kd = .ins ∨ c.kd = .rem
def ThI (t : Tr) (c : Cl) : Th → Prop
  | .told l => Upd c ∧ l < t.ns.length
  | .look => Upd c ∧ c.path ≠ []
  | .fail => c.kd = .rem ∧ 2 ≤ c.path.length
def SI (t : Tr) (c : Cl) : Stp → Prop
  | .desc b m => MdOk c.kd m ∧ (∃ p, Inn t p ∧ (b = t.left p ∨ b = t.right p)) ∧ (m = .way → c.path ≠ [] ∧ (c.path.length = 1 → b = t.left 2)) ∧ (m = .seek → c.over ≠ none)
  | .beg => c.kd = .ins
  | .look => Upd c ∧ c.path ≠ []
  | .down => Upd c ∧ c.path ≠ []
  | .grow l => c.kd = .ins ∧ c.path ≠ [] ∧ l < t.ns.length ∧ (t.nd l).inner = false
  | .lose l => c.kd = .rem ∧ 2 ≤ c.path.length ∧ l < t.ns.length
  | .mark o th fl => OI t o ∧ (t.wk o).state = 2 ∧ ThI t c th ∧ ThI t c fl
  | .drop o th => OI t o ∧ (t.wk o).state = 2 ∧ ThI t c th
  | .take o nx th => OI t o ∧ (t.wk o).old < t.ns.length ∧ NxOk t (t.wk o).old nx ∧ ThI t c th
  | .fin o th => OI t o ∧ ThI t c th
structure CC (t : Tr) (c : Cl) : Prop where
  path : ∀ ps ∈ c.path, Inn t ps.node
  head : ∀ i ps, c.path[i]? = some ps → (ps.node = 2 ↔ i = 0)
  over : ∀ p, c.over = some p → Inn t p
  none : c.kd ≠ .sek → c.over = none
def OutI (t : Tr) (kd : Kd) (n : Nat) (o : Out) : Prop := o.1.kd = kd ∧ CC t o.1 ∧ (∀ s, o.2 = some s → SI t o.1 s) ∧ o.1.path.length ≤ n
section
variable {t t' : Tr} {c : Cl}
theorem ThI.mono (g : Gr t t') : ∀ {th : Th}, ThI t c th → ThI t' c th
  | .told l, h => ⟨h.1, Nat.lt_of_lt_of_le h.2 g.nl⟩
  | .look, h => h
  | .fail, h => h
theorem Gr.left (g : Gr t t') {p : Nat} (hp : Inn t p) : t'.left p = t.left p := by unfold Tr.left; rw [g.nd p hp.1]
theorem Gr.right (g : Gr t t') {p : Nat} (hp : Inn t p) : t'.right p = t.right p := by unfold Tr.right; rw [g.nd p hp.1]
theorem SI.mono (h : TI t) (g : Gr t t') : ∀ {s : Stp}, SI t c s → SI t' c s
  | .desc b m, ⟨h1, ⟨p, h2, h3⟩, h4, h5⟩ => ⟨h1, ⟨p, g.inn h2, by rw [g.left h2, g.right h2]; exact h3⟩, fun e => ⟨(h4 e).1, fun e2 => by rw [g.left h.inn2]; exact (h4 e).2 e2⟩, h5⟩
  | .beg, h => h
  | .look, h => h
  | .down, h => h
  | .grow l, h => ⟨h.1, h.2.1, Nat.lt_of_lt_of_le h.2.2.1 g.nl, by rw [g.nd l h.2.2.1]; exact h.2.2.2⟩
  | .lose l, h => ⟨h.1, h.2.1, Nat.lt_of_lt_of_le h.2.2 g.nl⟩
  | .mark o th fl, ⟨h1, h2, h3, h4⟩ => ⟨⟨h1.1, Nat.le_trans h1.2 g.wl⟩, by rw [g.wk o h1.1 h1.2]; exact h2, h3.mono g, h4.mono g⟩
  | .drop o th, ⟨h1, h2, h3⟩ => ⟨⟨h1.1, Nat.le_trans h1.2 g.wl⟩, by rw [g.wk o h1.1 h1.2]; exact h2, h3.mono g⟩
  | .take o nx th, ⟨h1, h0, h2, h3⟩ => ⟨⟨h1.1, Nat.le_trans h1.2 g.wl⟩, by rw [g.wk o h1.1 h1.2]; exact Nat.lt_of_lt_of_le h0 g.nl, by rw [g.wk o h1.1 h1.2]; exact g.nx h0 h2, h3.mono g⟩
  | .fin o th, ⟨h1, h3⟩ => ⟨⟨h1.1, Nat.le_trans h1.2 g.wl⟩, h3.mono g⟩
theorem CC.mono (g : Gr t t') (h : CC t c) : CC t' c := ⟨fun ps hp => g.inn (h.path ps hp), h.head, fun p hp => g.inn (h.over p hp), h.none⟩
theorem OutI.mono (h : TI t) (g : Gr t t') {kd : Kd} {n m : Nat} {o : Out} (hm : n ≤ m) (ho : OutI t kd n o) : OutI t' kd m o := ⟨ho.1, ho.2.1.mono g, fun s hs => (ho.2.2.1 s hs).mono h g, Nat.le_trans ho.2.2.2 hm⟩
theorem CC.clIn (h : CC t c) : ClIn t.ns.length c := ⟨fun p hp => (h.path p hp).1, fun p hp => (h.over p hp).1⟩
theorem up_get {n : Nat} (hn : n < c.path.length) : c.path[c.path.length - 1 - n]? = some (c.up n) := by
  unfold Cl.up
  rw [List.getD_eq_getElem?_getD, List.getElem?_eq_getElem (by omega)]
  rfl
theorem CC.up (h : CC t c) {n : Nat} (hn : n < c.path.length) : Inn t (c.up n).node ∧ ((c.up n).node = 2 ↔ c.path.length - 1 - n = 0) :=
  ⟨h.path _ (List.mem_of_getElem? (up_get hn)), h.head _ _ (up_get hn)⟩
theorem CC.cut (h : CC t c) (n : Nat) : CC t (c.cut n) := ⟨fun ps hp => h.path ps (List.mem_of_mem_take hp), fun i ps hp => h.head i ps (by
  have hp' : (c.path.take (c.path.length - n))[i]? = some ps := hp
  rw [List.getElem?_take] at hp'
  split at hp'
  · exact hp'
  · cases hp'), h.over, h.none⟩
theorem cutC_len (c : Cl) (n : Nat) : (c.cut n).path.length = c.path.length - n := by
  show (c.path.take (c.path.length - n)).length = _
  rw [List.length_take]; omega
theorem cut_up {n : Nat} (hn : n + 1 ≤ c.path.length) : (c.cut n).up 0 = c.up n := by
  have h1 := up_get (c := c.cut n) (n := 0) (by rw [cutC_len]; omega)
  have h2 := up_get (c := c) (n := n) (by omega)
  have h3 : (c.path.take (c.path.length - n))[(c.cut n).path.length - 1 - 0]? = some ((c.cut n).up 0) := h1
  rw [cutC_len, List.getElem?_take, if_pos (by omega)] at h3
  have e : c.path.length - n - 1 - 0 = c.path.length - 1 - n := by omega
  rw [e, h2] at h3
  exact (Option.some.inj h3).symm
theorem CC.pass (h : CC t c) {n : Nat} (hn : Inn t n) (h2 : n ≠ 2) (hp : c.path ≠ []) : CC t (c.pass n) := by
  have hl : 0 < c.path.length := List.length_pos_iff.2 hp
  refine ⟨fun ps hps => ?_, fun i ps hps => ?_, h.over, h.none⟩
  · rcases List.mem_append.1 hps with hps | hps
    · exact h.path ps hps
    · simp only [List.mem_singleton] at hps; subst hps; exact hn
  · have hps' : (c.path ++ [⟨n, false, 0⟩])[i]? = some ps := hps
    by_cases hi : i < c.path.length
    · rw [List.getElem?_append_left hi] at hps'; exact h.head i ps hps'
    · rw [List.getElem?_append_right (by omega)] at hps'
      have hi2 := (List.getElem?_eq_some_iff.1 hps').1
      simp at hi2
      have e : i - c.path.length = 0 := by omega
      rw [e] at hps'
      simp at hps'
      subst hps'
      exact ⟨fun e => absurd e h2, fun e => by omega⟩
theorem CC.saw (h : CC t c) (was : Int) (hp : c.path ≠ []) : CC t (c.saw was) := by
  have hl : 0 < c.path.length := List.length_pos_iff.2 hp
  obtain ⟨u1, u2⟩ := h.up (n := 0) hl
  refine ⟨fun ps hps => ?_, fun i ps hps => ?_, h.over, h.none⟩
  · rcases List.mem_or_eq_of_mem_set hps with hps | rfl
    · exact h.path ps hps
    · exact u1
  · have hps' : (c.path.set (c.path.length - 1) ⟨(c.up 0).node, true, was⟩)[i]? = some ps := hps
    rw [List.getElem?_set] at hps'
    split at hps'
    · rename_i e
      rw [if_pos (by omega)] at hps'
      simp only [Option.some.injEq] at hps'
      subst hps'
      rw [← e]
      simpa using u2
    · exact h.head i ps hps'
theorem saw_len (c : Cl) (was : Int) : (c.saw was).path.length = c.path.length := by
  show (c.path.set _ _).length = _
  simp
theorem CC.tell (h : CC t c) (a : An) : CC t (c.tell a) := ⟨h.path, h.head, h.over, h.none⟩
theorem OutI.told (h : CC t c) {n : Nat} (hn : c.path.length ≤ n) (a : An) : OutI t c.kd n (c.tell a, none) := ⟨rfl, h.tell a, (fun s e => by cases e), hn⟩
theorem OutI.goes (h : CC t c) {n : Nat} (hn : c.path.length ≤ n) {s : Stp} (hs : SI t c s) : OutI t c.kd n (c, some s) := ⟨rfl, h, (fun s' e => by cases e; exact hs), hn⟩
theorem OutI.found (h : CC t c) {n : Nat} (hn : c.path.length ≤ n) (l : Nat) : OutI t c.kd n (c.found t l) := by
  unfold Cl.found
  split
  · exact OutI.told h hn _
  · exact OutI.told h hn _
theorem ne_nil_of_len {α : Type} {l : List α} (h : 1 ≤ l.length) : l ≠ [] := fun e => by rw [e] at h; simp at h
theorem leaf_si (h : TI t) (hc : CC t c) {l : Nat} (hl : l < t.ns.length) (hi : (t.nd l).inner = false) {m : Md} (hm : MdOk c.kd m) (hp : m = .way → c.path ≠ []) (hs : m = .seek → c.over ≠ none) (hr : c.kd = .rem → (t.nd l).has c.key = true → 2 ≤ c.path.length) :
    OutI t c.kd c.path.length (c.leaf t l m) := by
  have hle := Nat.le_refl c.path.length
  unfold Cl.leaf
  cases hk : c.kd with
  | ins =>
    rw [hk] at hm
    dsimp only
    have hw : m = .way := by cases m <;> simp [MdOk] at hm ⊢
    split
    · rw [← hk]; exact OutI.told hc hle _
    · split
      · rw [← hk]; exact OutI.told hc hle _
      · split
        · have := OutI.goes hc hle (s := .grow l) ⟨hk, hp hw, hl, hi⟩; rw [hk] at this; exact this
        · have := OutI.goes hc hle (s := .look) ⟨Or.inl hk, hp hw⟩; rw [hk] at this; exact this
  | rem =>
    rw [hk] at hm
    dsimp only
    split
    · rename_i hh
      have h2 := hr hk hh
      split
      · have := OutI.goes hc hle (s := .lose l) ⟨hk, h2, hl⟩; rw [hk] at this; exact this
      · have := OutI.goes (hc.cut 1) (n := c.path.length) (by rw [cutC_len]; omega) (s := .look) ⟨Or.inr hk, ne_nil_of_len (by rw [cutC_len]; omega)⟩
        have e : (c.cut 1).kd = .rem := hk
        rw [e] at this; exact this
    · rw [← hk]; exact OutI.told hc hle _
  | fnd =>
    dsimp only
    split
    · rw [← hk]; exact OutI.told hc hle _
    · rw [← hk]; exact OutI.told hc hle _
  | sek =>
    rw [hk] at hm
    cases m with
    | seek =>
      dsimp only
      split
      · rw [← hk]; exact OutI.found hc hle l
      · cases ho : c.over with
        | none => exact absurd ho (hs rfl)
        | some p =>
          have := OutI.goes hc hle (s := .desc (t.right p) .left) ⟨by rw [hk]; exact hm, ⟨p, hc.over p ho, Or.inr rfl⟩, (fun e => by cases e), fun e => by cases e⟩
          rw [hk] at this; exact this
    | left => dsimp only; rw [← hk]; exact OutI.found hc hle l
    | find => exact absurd hm id
    | way => exact absurd hm id
theorem leaf_ok (h : TI t) (hc : CC t c) {l : Nat} (hl : l < t.ns.length) (hb : t.ns.length ≤ 65536) (hpl : c.path.length ≤ 1000000000) {m : Md} (hm : MdOk c.kd m) (hp : m = .way → c.path ≠ []) (hs : m = .seek → c.over ≠ none) (hr : c.kd = .rem → (t.nd l).has c.key = true → 2 ≤ c.path.length) : LeafOk t c l m := by
  refine ⟨hl, hpl, fun hk => ?_, hr, fun hk e _ => ?_⟩
  · rw [hk] at hm
    exact hp (by cases m <;> simp [MdOk] at hm ⊢)
  · cases ho : c.over with
    | none => exact absurd ho (hs e)
    | some p => exact ⟨p, rfl, h.nd hb (hc.over p ho)⟩
/-- where a step down leads -/
theorem desc_si (h : TI t) (hc : CC t c) {b : Br} {m : Md} (hb : t.ns.length ≤ 65536) (hpl : c.path.length ≤ 1000000000) (hs : SI t c (.desc b m)) : DescOk t c (t.kid b) m ∧ OutI t c.kd (c.path.length + 1) (c.desc t (t.kid b) m) := by
  obtain ⟨h1, ⟨p, h2, h3⟩, h4, h5⟩ := hs
  obtain ⟨n, hn⟩ : ∃ n, n = t.kid b := ⟨_, rfl⟩
  have hk : n < t.ns.length ∧ n ≠ 2 := by
    rw [hn]
    rcases h3 with e | e
    · rw [e]; exact h.kidl p h2
    · rw [e]; exact h.kidr p h2
  have hr : c.kd = .rem → (t.nd n).has c.key = true → 2 ≤ c.path.length := fun e e2 => by
    rw [e] at h1
    obtain ⟨h6, h7⟩ := h4 (by cases m <;> simp [MdOk] at h1 ⊢)
    have hl : 0 < c.path.length := List.length_pos_iff.2 h6
    by_cases e1 : c.path.length = 1
    · have hf := h.fin2
      rw [← h7 e1, ← hn] at hf
      unfold Nd.has at e2
      rw [hf] at e2; cases e2
    · omega
  rw [← hn]
  refine ⟨⟨hk.1, by omega, fun hi => h.nd hb ⟨hk.1, hi⟩, fun hi => leaf_ok h hc hk.1 hb (by omega) h1 (fun e => (h4 e).1) h5 hr⟩, ?_⟩
  unfold Cl.desc
  by_cases hi : (t.nd n).inner = true
  · rw [if_pos hi]
    have hin : Inn t n := ⟨hk.1, hi⟩
    cases m with
    | find => exact ⟨rfl, hc, fun s e => by
        simp only [Option.some.injEq] at e; subst e
        exact ⟨h1, ⟨n, hin, toward_or t n c.key⟩, (fun e => by cases e), fun e => by cases e⟩, by show c.path.length ≤ _; omega⟩
    | left => exact ⟨rfl, hc, fun s e => by
        simp only [Option.some.injEq] at e; subst e
        exact ⟨h1, ⟨n, hin, Or.inl rfl⟩, (fun e => by cases e), fun e => by cases e⟩, by show c.path.length ≤ _; omega⟩
    | seek =>
      have hks : c.kd = .sek := by cases hkk : c.kd <;> rw [hkk] at h1 <;> simp [MdOk] at h1 ⊢
      unfold Cl.toward
      dsimp only
      by_cases ha : (t.nd n).above c.key = true
      · rw [if_pos ha]
        exact ⟨rfl, ⟨hc.path, hc.head, fun q e => by simp only [Option.some.injEq] at e; subst e; exact hin, fun e => absurd hks e⟩, fun s e => by
          simp only [Option.some.injEq] at e; subst e
          exact ⟨h1, ⟨n, hin, toward_or t n c.key⟩, (fun e => by cases e), fun _ e => by cases e⟩, by show c.path.length ≤ _; omega⟩
      · rw [if_neg ha]
        exact ⟨rfl, hc, fun s e => by
          simp only [Option.some.injEq] at e; subst e
          exact ⟨h1, ⟨n, hin, toward_or t n c.key⟩, (fun e => by cases e), h5⟩, by show c.path.length ≤ _; omega⟩
    | way =>
      have hne := (h4 rfl).1
      have hl : 0 < c.path.length := List.length_pos_iff.2 hne
      have hpl2 : (c.pass n).path.length = c.path.length + 1 := by show (c.path ++ [_]).length = _; simp
      exact ⟨rfl, hc.pass hin hk.2 hne, fun s e => by
        simp only [Option.some.injEq] at e; subst e
        exact ⟨h1, ⟨n, hin, toward_or t n c.key⟩, fun _ => ⟨ne_nil_of_len (by show 1 ≤ (c.pass n).path.length; omega), fun e => by
          have e' : (c.pass n).path.length = 1 := e
          omega⟩, fun e => by cases e⟩, by show (c.pass n).path.length ≤ _; omega⟩
  · rw [if_neg hi]
    exact (leaf_si h hc hk.1 (by simpa using hi) h1 (fun e => (h4 e).1) h5 hr).mono h (Gr.refl t) (by omega)
theorem WdOk.hlp (h : TI t) {x : Int} (hx : WdOk t x) : HlpOk t x := fun e => by
  obtain ⟨h1, h2⟩ := h.live _ e
  refine ⟨h1, h2, fun e1 => ?_⟩
  have h3 := (hx.2 (by omega)).1 e1
  rcases (h.wks _ h1 h2).kind with ⟨_, q, hq⟩ | ⟨h4, _⟩
  · exact ⟨q, hq⟩
  · rw [h3] at h4; cases h4
theorem run_si (hc : CC t c) {th : Th} (ht : ThI t c th) : OutI t c.kd c.path.length (c.run t th) := by
  cases th with
  | told l => exact OutI.told hc (Nat.le_refl _) _
  | look => exact OutI.goes hc (Nat.le_refl _) (s := .look) ht
  | fail =>
    obtain ⟨h1, h2⟩ := ht
    exact OutI.goes (hc.cut 1) (n := c.path.length) (by rw [cutC_len]; omega) (s := .look) ⟨Or.inr h1, ne_nil_of_len (by rw [cutC_len]; omega)⟩
theorem help_si (h : TI t) (hc : CC t c) {x : Int} (hx : WdOk t x) (h0 : x % 4 ≠ 0) {th : Th} (ht : ThI t c th) : OutI t c.kd c.path.length (c.help t x th) := by
  unfold Cl.help
  split
  · rename_i e
    obtain ⟨h1, h2⟩ := h.live _ e
    have hw := h.wks _ h1 h2
    obtain ⟨g1, g2⟩ := hx.2 (by omega)
    split
    · rename_i e1
      rcases hw.kind with ⟨_, q, hq⟩ | ⟨h4, _⟩
      · refine OutI.goes hc (Nat.le_refl _) (s := .take _ _ th) ⟨⟨h1, h2⟩, hw.old, ?_, ht⟩
        rw [hq]; exact hw.nxt q hq
      · rw [g1 e1] at h4; cases h4
    · split
      · rename_i e2
        exact OutI.goes hc (Nat.le_refl _) (s := .mark _ th th) ⟨⟨h1, h2⟩, g2 (Or.inl e2), ht, ht⟩
      · exact OutI.goes hc (Nat.le_refl _) (s := .drop _ th) ⟨⟨h1, h2⟩, g2 (Or.inr (by omega)), ht⟩
  · exact run_si hc ht
theorem met_si (h : TI t) (hc : CC t c) (hu : Upd c) (hp : c.path ≠ []) : OutI t c.kd c.path.length (c.met t (t.ms.at (t.word (c.up 0).node))) := by
  have hl : 0 < c.path.length := List.length_pos_iff.2 hp
  obtain ⟨u1, u2⟩ := hc.up (n := 0) hl
  have hw := h.word _ u1
  have h2 : t.ms.at (t.word (c.up 0).node) % 4 = 3 → 2 ≤ c.path.length := fun e => by
    by_cases e1 : c.path.length = 1
    · have := u2.2 (by omega)
      rw [this] at e
      exact absurd e h.word2
    · omega
  unfold Cl.met
  split
  · exact OutI.goes (hc.saw _ hp) (n := c.path.length) (by rw [saw_len]; omega) (s := .down) ⟨hu, ne_nil_of_len (by rw [saw_len]; omega)⟩
  · split
    · rename_i e
      have := help_si h (hc.cut 1) hw (by omega) (th := .look) ⟨hu, ne_nil_of_len (by rw [cutC_len]; have := h2 e; omega)⟩
      exact this.mono h (Gr.refl t) (by rw [cutC_len]; omega)
    · exact help_si h hc hw (by assumption) (th := .look) ⟨hu, hp⟩
end
end Go.Proofs.Ytmhiolhgofackaa
namespace Go.Proofs.Ytmhiolhgofackaa
open Go.RowKit
set_option linter.unusedVariables false
set_option linter.unusedSimpArgs false

structure Bd (t : Tr) (c : Cl) : Prop where
  ns : t.ns.length ≤ 60000
  asked : t.ms.n ≤ 1000000000000
  ws : t.ws.length ≤ 900000000
  path : c.path.length ≤ 1000000000
section
variable {t : Tr} {c : Cl}
theorem Bd.small (hb : Bd t c) (h : TI t) : Small t c := ⟨by rw [h.len]; have := hb.ns; omega, by have := hb.asked; omega, by have := hb.ws; omega, by have := hb.path; omega⟩
theorem begin_n (t : Tr) (o : Wk) (s : Int) : t.ms.n ≤ (t.begin o s).ms.n ∧ (t.begin o s).ms.n ≤ t.ms.n + 1 := by
  unfold Tr.begin
  dsimp only
  split
  · exact MS.cas_n _ _ _ _
  · exact MS.cas_n _ _ _ _
theorem grow_n (m : MS) (n : Int) : (m.grow n).n = m.n := by unfold MS.grow; split <;> rfl
theorem Gr.begin (t : Tr) (o : Wk) (s : Int) : Gr t (t.begin o s) ∧ (t.begin o s).ws.length ≤ t.ws.length + 1 := by
  cases hc : t.ms.casB (t.word o.at_) s with
  | false => rw [begin_no hc]; exact ⟨Gr.of rfl rfl, by show t.ws.length ≤ _; omega⟩
  | true =>
    rw [begin_ok hc]
    have e : ((t.cas (t.word o.at_) s (packW o.state ((t.ws.length : Int) + 1))).start o).ws.length = t.ws.length + 1 := by simp [Tr.start, Tr.cas]
    refine ⟨⟨Nat.le_refl _, fun p hp => rfl, by rw [e]; omega, fun i h0 hi => wk_start (t := t.cas (t.word o.at_) s (packW o.state ((t.ws.length : Int) + 1))) h0 hi⟩, by rw [e]; omega⟩
theorem Gr.split (t : Tr) (l : Nat) (k : ByteArray) (v : Int) : Gr t (t.split l k v) ∧ (t.split l k v).ns.length = t.ns.length + 3 ∧ (t.split l k v).ws.length = t.ws.length ∧ (t.split l k v).ms.n = t.ms.n ∧ (t.split l k v).nd (t.ns.length + 2) = ⟨true, (highN t l k v).fin, (highN t l k v).key, 0, t.ms.c.length⟩ := by
  rw [split_eq]
  obtain ⟨n1, n2, n3, n4, n5⟩ := join_nd (t := t) (lo := lowN t l k v) (hi := highN t l k v)
  exact ⟨⟨by rw [n5]; omega, n1, Nat.le_refl _, fun _ _ _ => rfl⟩, n5, rfl, grow_n _ _, n4⟩
theorem toward_two (h : TI t) (k : ByteArray) : t.toward 2 k = t.left 2 := by
  unfold Tr.toward
  have : (t.nd 2).above k = true := by unfold Nd.above; rw [h.two.2]; rfl
  rw [if_pos this]
def StepI (t : Tr) (c : Cl) (s : Stp) : Prop :=
  StepOk t c s ∧ TI (stepP t c s).1 ∧ Gr t (stepP t c s).1 ∧ OutI (stepP t c s).1 c.kd (c.path.length + 2) (stepP t c s).2 ∧ (stepP t c s).1.ns.length ≤ t.ns.length + 3 ∧ (stepP t c s).1.ws.length ≤ t.ws.length + 1 ∧ t.ms.n ≤ (stepP t c s).1.ms.n ∧ (stepP t c s).1.ms.n ≤ t.ms.n + 1
theorem desc_ask (t : Tr) (c : Cl) (x : Int) (n : Nat) (m : Md) : c.desc (t.ask x) n m = c.desc t n m := by
  unfold Cl.desc
  rw [leaf_same (SameC.ask t x)]
  cases m <;> rfl
theorem stepI_desc (h : TI t) (hc : CC t c) (hb : Bd t c) {b : Br} {m : Md} (hs : SI t c (.desc b m)) : StepI t c (.desc b m) := by
  obtain ⟨d1, d2⟩ := desc_si h hc (by have := hb.ns; omega) (by have := hb.path; omega) hs
  have hg : Gr t (t.ask b.cell) := Gr.of rfl rfl
  refine ⟨⟨hs.1, d1⟩, h.ask _, hg, ?_, by show t.ns.length ≤ _; omega, by show t.ws.length ≤ _; omega, (ask_n t _).1, (ask_n t _).2⟩
  show OutI (t.ask b.cell) c.kd _ (c.desc (t.ask b.cell) (t.kid b) m)
  rw [desc_ask]
  exact d2.mono h hg (by omega)
theorem beg_si (h : TI t) (hc : CC t c) (hk : c.kd = .ins) : CC t ({ c with full := !t.room, path := [⟨2, false, 0⟩] } : Cl) ∧ SI t ({ c with full := !t.room, path := [⟨2, false, 0⟩] } : Cl) (.desc (t.toward 2 c.key) .way) := by
  refine ⟨⟨fun ps hps => ?_, fun i ps hps => ?_, hc.over, hc.none⟩, ?_, ⟨2, h.inn2, toward_or t 2 c.key⟩, fun _ => ⟨by simp, fun _ => toward_two h c.key⟩, fun e => by cases e⟩
  · have hps' : ps ∈ [(⟨2, false, 0⟩ : Ps)] := hps
    simp only [List.mem_singleton] at hps'
    subst hps'; exact h.inn2
  · have hps' : [(⟨2, false, 0⟩ : Ps)][i]? = some ps := hps
    have hi := (List.getElem?_eq_some_iff.1 hps').1
    simp at hi
    subst hi
    simp at hps'
    subst hps'
    simp
  · show MdOk c.kd .way
    rw [hk]; trivial
theorem stepI_beg (h : TI t) (hc : CC t c) (hb : Bd t c) (hs : SI t c .beg) : StepI t c .beg := by
  obtain ⟨c1, c2⟩ := beg_si h hc hs
  obtain ⟨d1, d2⟩ := desc_si h c1 (by have := hb.ns; omega) (by show 1 ≤ _; omega) c2
  have hg : Gr t (t.ask (t.toward 2 c.key).cell) := Gr.of rfl rfl
  exact ⟨⟨hs, h.nd (by have := hb.ns; omega) h.inn2, d1⟩, h.ask _, hg, d2.mono h hg (by show 1 + 1 ≤ _; omega), by show t.ns.length ≤ _; omega, by show t.ws.length ≤ _; omega, (ask_n t _).1, (ask_n t _).2⟩
theorem stepI_look (h : TI t) (hc : CC t c) (hb : Bd t c) (hs : SI t c .look) : StepI t c .look := by
  obtain ⟨hu, hp⟩ := hs
  obtain ⟨u1, u2⟩ := hc.up (n := 0) (List.length_pos_iff.2 hp)
  have hg : Gr t (t.ask (t.word (c.up 0).node)) := Gr.of rfl rfl
  exact ⟨⟨hu, hp, h.nd (by have := hb.ns; omega) u1, isU_at h.isu _, (h.word _ u1).hlp h⟩, h.ask _, hg, (met_si h hc hu hp).mono h hg (by omega), by show t.ns.length ≤ _; omega, by show t.ws.length ≤ _; omega, (ask_n t _).1, (ask_n t _).2⟩
theorem stepI_down (h : TI t) (hc : CC t c) (hb : Bd t c) (hs : SI t c .down) : StepI t c .down := by
  obtain ⟨hu, hp⟩ := hs
  have hl := List.length_pos_iff.2 hp
  obtain ⟨u1, u2⟩ := hc.up (n := 0) hl
  have hsd : SI t c (.desc (t.toward (c.up 0).node c.key) .way) := by
    refine ⟨?_, ⟨_, u1, toward_or t _ _⟩, fun _ => ⟨hp, fun e => ?_⟩, fun e => by cases e⟩
    · rcases hu with e | e <;> rw [e] <;> trivial
    · rw [u2.2 (by omega)]; exact toward_two h _
  obtain ⟨d1, d2⟩ := desc_si h hc (by have := hb.ns; omega) (by have := hb.path; omega) hsd
  have hg : Gr t (t.ask (t.toward (c.up 0).node c.key).cell) := Gr.of rfl rfl
  refine ⟨⟨hu, hp, h.nd (by have := hb.ns; omega) u1, d1⟩, h.ask _, hg, ?_, by show t.ns.length ≤ _; omega, by show t.ws.length ≤ _; omega, (ask_n t _).1, (ask_n t _).2⟩
  obtain ⟨n, hn⟩ : ∃ n, n = t.kid (t.toward (c.up 0).node c.key) := ⟨_, rfl⟩
  rw [← hn] at d2
  show OutI _ c.kd _ (if (t.nd (t.kid (t.toward (c.up 0).node c.key))).inner then (c.pass (t.kid (t.toward (c.up 0).node c.key)), some .look) else c.leaf t (t.kid (t.toward (c.up 0).node c.key)) .way)
  rw [← hn]
  unfold Cl.desc at d2
  by_cases hi : (t.nd n).inner = true
  · rw [if_pos hi] at d2 ⊢
    obtain ⟨e1, e2, e3, e4⟩ := d2
    have hlen : (c.pass n).path.length = c.path.length + 1 := by show (c.path ++ [_]).length = _; simp
    exact (OutI.goes (t := t) (c := c.pass n) e2 (n := c.path.length + 1) (by omega) (s := .look) ⟨hu, ne_nil_of_len (by omega)⟩).mono h hg (by omega)
  · rw [if_neg hi] at d2 ⊢
    exact d2.mono h hg (by omega)
theorem wks_in (h : TI t) : WksIn t := by
  intro o ho
  obtain ⟨i, hi⟩ := List.getElem?_of_mem ho
  have hlt := (List.getElem?_eq_some_iff.1 hi).1
  have e : t.wk (i + 1) = o := by unfold Tr.wk; rw [List.getD_eq_getElem?_getD]; simp [hi]
  have := h.wks (i + 1) (by omega) (by omega)
  rw [e] at this
  exact ⟨this.at_.1, this.old, fun p hp => (this.nxt p hp).1⟩
theorem room_of (h : TI t) (hb : t.ns.length ≤ 60000) : t.room = true := by unfold Tr.room; apply decide_eq_true; rw [h.len]; omega
theorem stepI_grow (h : TI t) (hc : CC t c) (hb : Bd t c) {l : Nat} (hs : SI t c (.grow l)) : StepI t c (.grow l) := by
  obtain ⟨hk, hp, hl, hi⟩ := hs
  have hns := hb.ns
  have hroom := room_of h hns
  obtain ⟨u1, u2⟩ := hc.up (n := 0) (List.length_pos_iff.2 hp)
  have hok : GrowOk t c l := ⟨hl, hp, by have := hb.path; omega, h.nd (by omega) u1, h.nd (by omega) h.inn2, by rw [h.len]; omega, by have := hb.asked; omega, by omega, wks_in h, fun i hi => (h.live i hi).2, by have := hb.ws; omega, isU_at h.isu _, (h.word _ u1).hlp h, fun e => (by rw [hroom] at e; cases e), fun p hp => (hc.path p hp).1, hc.none (by rw [hk]; simp)⟩
  have hu : Upd c := Or.inl hk
  unfold StepI
  refine ⟨⟨hk, hok⟩, ?_⟩
  simp only [stepP, if_pos hroom]
  cases hcb : t.ms.casB (t.word (c.up 0).node) (c.up 0).seen with
  | false =>
    rw [if_neg Bool.false_ne_true]
    obtain ⟨o, ho⟩ : ∃ o : Wk, o = ⟨1, c.key, (c.up 0).node, l, none, 0⟩ := ⟨_, rfl⟩
    have hcb' : t.ms.casB (t.word o.at_) (c.up 0).seen = false := by rw [ho]; exact hcb
    have hg := Gr.begin t o (c.up 0).seen
    have hn := begin_n t o (c.up 0).seen
    rw [← ho]
    refine ⟨?_, hg.1, (met_si h hc hu hp).mono h hg.1 (by omega), by rw [begin_ns]; omega, hg.2, hn.1, hn.2⟩
    rw [begin_no hcb']
    exact h.cas0 (isU_packW _ _) hcb'
  | true =>
    rw [if_pos rfl]
    obtain ⟨o, ho⟩ : ∃ o : Wk, o = ⟨1, c.key, (c.up 0).node, l, some (t.ns.length + 2), 0⟩ := ⟨_, rfl⟩
    have hcb' : t.ms.casB (t.word o.at_) (c.up 0).seen = true := by rw [ho]; exact hcb
    rw [← ho]
    have hoa : o.at_ = (c.up 0).node := by rw [ho]
    have hol : o.old = l := by rw [ho]
    obtain ⟨e1, e2⟩ := begin_split (t := t) (o := o) (l := l) (k := c.key) (v := c.val) hcb' (by rw [hoa]; exact u1.1) hroom
    rw [e1]
    obtain ⟨g1, g2, g3, g4, g5⟩ := Gr.split t l c.key c.val
    have h2 := h.split hi c.key c.val hroom
    obtain ⟨t2, ht2⟩ : ∃ t2, t2 = t.split l c.key c.val := ⟨_, rfl⟩
    rw [← ht2] at g1 g2 g3 g4 g5 h2 e2 ⊢
    have h3 := h.three
    have hnx : NxOk t2 l (t.ns.length + 2) := ⟨by rw [g2]; omega, by omega, fun hf => by
      rw [g1.nd l hl] at hf
      rw [g5]; exact high_fin _ _ hf⟩
    have hwk : WkT t2 o := by
      refine ⟨by rw [hoa]; exact g1.inn u1, by rw [hol, g2]; omega, fun q hq => ?_, Or.inl ?_⟩
      · rw [ho] at hq
        simp only [Option.some.injEq] at hq
        rw [hol, ← hq]; exact hnx
      · rw [ho]; exact ⟨rfl, _, rfl⟩
    have hgb := Gr.begin t2 o (c.up 0).seen
    have hn := begin_n t2 o (c.up 0).seen
    refine ⟨h2.begin _ hwk (by rw [g3]; have := hb.ws; omega), g1.trans hgb.1, ?_, by rw [begin_ns, g2]; exact Nat.le_refl _, by rw [← g3]; exact hgb.2, by rw [← g4]; exact hn.1, by rw [← g4]; exact hn.2⟩
    have hwl : (t2.begin o (c.up 0).seen).ws.length = t.ws.length + 1 := by rw [begin_ok e2]; simp [Tr.start, Tr.cas, g3]
    have hwi : (t2.begin o (c.up 0).seen).wk (t.ws.length + 1) = o := by
      rw [begin_ok e2, ← g3]
      exact wk_last (t := t2.cas (t2.word o.at_) (c.up 0).seen (packW o.state ((t2.ws.length : Int) + 1)))
    refine OutI.goes (hc.mono (g1.trans hgb.1)) (by omega) (s := .take _ _ _) ⟨⟨by omega, by rw [hwl]; omega⟩, ?_, ?_, hu, ?_⟩
    · rw [hwi, hol, begin_ns, g2]; omega
    · rw [hwi, hol]; exact hgb.1.nx (by rw [g2]; omega) hnx
    · rw [begin_ns, g2]; omega
theorem stepI_lose (h : TI t) (hc : CC t c) (hb : Bd t c) {l : Nat} (hs : SI t c (.lose l)) : StepI t c (.lose l) := by
  obtain ⟨hk, hp, hl⟩ := hs
  have hns := hb.ns
  obtain ⟨u1, u2⟩ := hc.up (n := 0) (by omega)
  obtain ⟨v1, v2⟩ := hc.up (n := 1) (by omega)
  have hok : LoseOk t c l := ⟨hl, hp, by have := hb.path; omega, h.nd (by omega) v1, u1.1, by rw [h.len]; omega, by have := hb.asked; omega, fun i hi => (h.live i hi).2, by have := hb.ws; omega, isU_at h.isu _, (h.word _ v1).hlp h, fun p hp => (hc.path p hp).1, hc.none (by rw [hk]; simp)⟩
  have hu : Upd c := Or.inr hk
  unfold StepI
  refine ⟨⟨hk, hok⟩, ?_⟩
  simp only [stepP]
  obtain ⟨o, ho⟩ : ∃ o : Wk, o = ⟨2, c.key, (c.up 1).node, (c.up 0).node, none, (c.up 0).seen⟩ := ⟨_, rfl⟩
  rw [← ho]
  have hoa : o.at_ = (c.up 1).node := by rw [ho]
  have hg := Gr.begin t o (c.up 1).seen
  have hn := begin_n t o (c.up 1).seen
  have hwk : WkT t o := by
    refine ⟨by rw [hoa]; exact v1, by rw [ho]; exact u1.1, fun q hq => (by rw [ho] at hq; cases hq), Or.inr ?_⟩
    rw [ho]
    exact ⟨rfl, u1, fun e => by have := u2.1 e; omega⟩
  refine ⟨h.begin _ hwk (by have := hb.ws; omega), hg.1, ?_, by rw [begin_ns]; omega, hg.2, hn.1, hn.2⟩
  cases hcb : t.ms.casB (t.word (c.up 1).node) (c.up 1).seen with
  | false =>
    rw [if_neg Bool.false_ne_true]
    have hne : (c.cut 1).path ≠ [] := ne_nil_of_len (by rw [cutC_len]; omega)
    have := met_si h (hc.cut 1) (show Upd (c.cut 1) from hu) hne
    rw [cut_up (by omega)] at this
    exact this.mono h hg.1 (by rw [cutC_len]; omega)
  | true =>
    rw [if_pos rfl]
    have hcb' : t.ms.casB (t.word o.at_) (c.up 1).seen = true := by rw [hoa]; exact hcb
    have hwl : (t.begin o (c.up 1).seen).ws.length = t.ws.length + 1 := by rw [begin_ok hcb']; simp [Tr.start, Tr.cas]
    have hwi : (t.begin o (c.up 1).seen).wk (t.ws.length + 1) = o := by
      rw [begin_ok hcb']
      exact wk_last (t := t.cas (t.word o.at_) (c.up 1).seen (packW o.state ((t.ws.length : Int) + 1)))
    refine OutI.goes (hc.mono hg.1) (by omega) (s := .mark _ _ _) ⟨⟨by omega, by rw [hwl]; omega⟩, by rw [hwi, ho], ⟨hu, by rw [begin_ns]; exact hl⟩, ⟨hk, hp⟩⟩
theorem WkT.rem {o : Wk} (h : WkT t o) (hs : o.state = 2) : Inn t o.old ∧ o.old ≠ 2 := by
  rcases h.kind with ⟨h1, _⟩ | ⟨_, h2⟩
  · rw [hs] at h1; cases h1
  · exact h2
theorem stepI_mark (h : TI t) (hc : CC t c) (hb : Bd t c) {o : Nat} {th fl : Th} (hs : SI t c (.mark o th fl)) : StepI t c (.mark o th fl) := by
  obtain ⟨⟨h1, h2⟩, h3, h4, h5⟩ := hs
  obtain ⟨r1, r2⟩ := (h.wks o h1 h2).rem h3
  have hns := hb.ns
  have hws := hb.ws
  have hpk := packW_div (s := 3) (i := o) (by omega) (by omega)
  have hwd : WdOk t (packW 3 (o : Int)) := by
    refine ⟨by rw [hpk.1]; omega, fun _ => ?_⟩
    rw [hpk.1, hpk.2]
    exact ⟨fun e => by omega, fun _ => h3⟩
  have hg : Gr t (t.cas (t.word (t.wk o).old) (t.wk o).seen (packW 3 (o : Int))) := Gr.of rfl rfl
  have hn := MS.cas_n t.ms (t.word (t.wk o).old) (t.wk o).seen (packW 3 (o : Int))
  refine ⟨⟨h1, h2, h.nd (by omega) r1⟩, h.wcas r1 _ _ hwd (isU_packW _ _) (fun e => absurd e r2), hg, ?_, by show t.ns.length ≤ _; omega, by show t.ws.length ≤ _; omega, hn.1, hn.2⟩
  simp only [stepP]
  split
  · exact OutI.mono h hg (n := c.path.length) (by omega) (OutI.goes hc (Nat.le_refl _) (s := .drop o th) ⟨⟨h1, h2⟩, h3, h4⟩)
  · exact OutI.mono h hg (n := c.path.length) (by omega) (OutI.goes hc (Nat.le_refl _) (s := .fin o fl) ⟨⟨h1, h2⟩, h5⟩)
theorem stepI_drop (h : TI t) (hc : CC t c) (hb : Bd t c) {o : Nat} {th : Th} (hs : SI t c (.drop o th)) : StepI t c (.drop o th) := by
  obtain ⟨⟨h1, h2⟩, h3, h4⟩ := hs
  obtain ⟨r1, r2⟩ := (h.wks o h1 h2).rem h3
  have hns := hb.ns
  have hk : t.kid (t.beside (t.wk o).old (t.wk o).key) < t.ns.length ∧ t.kid (t.beside (t.wk o).old (t.wk o).key) ≠ 2 := by
    rcases beside_or t (t.wk o).old (t.wk o).key with e | e
    · rw [e]; exact h.kidl _ r1
    · rw [e]; exact h.kidr _ r1
  have hg : Gr t (t.ask (t.beside (t.wk o).old (t.wk o).key).cell) := Gr.of rfl rfl
  refine ⟨⟨h1, h2, h.nd (by omega) r1, hk.1⟩, h.ask _, hg, ?_, by show t.ns.length ≤ _; omega, by show t.ws.length ≤ _; omega, (ask_n t _).1, (ask_n t _).2⟩
  refine OutI.mono h hg (n := c.path.length) (by omega) (OutI.goes hc (Nat.le_refl _) (s := .take o _ th) ⟨⟨h1, h2⟩, r1.1, ⟨hk.1, hk.2, fun hf => ?_⟩, h4⟩)
  have ha : (t.nd (t.wk o).old).above (t.wk o).key = true := by unfold Nd.above; rw [hf]; rfl
  have hb2 : t.beside (t.wk o).old (t.wk o).key = t.right (t.wk o).old := by unfold Tr.beside; rw [if_pos ha]
  rw [hb2]
  exact h.finr _ r1 hf
theorem stepI_take (h : TI t) (hc : CC t c) (hb : Bd t c) {o nx : Nat} {th : Th} (hs : SI t c (.take o nx th)) : StepI t c (.take o nx th) := by
  obtain ⟨⟨h1, h2⟩, h3, h4, h5⟩ := hs
  have hns := hb.ns
  have hw := h.wks o h1 h2
  have hg : Gr t (t.turn (t.toward (t.wk o).at_ (t.wk o).key) (t.wk o).old nx) := Gr.of rfl rfl
  have hn := MS.cas_n t.ms (t.toward (t.wk o).at_ (t.wk o).key).cell (u64 ((t.wk o).old - (t.toward (t.wk o).at_ (t.wk o).key).first)) (u64 (nx - (t.toward (t.wk o).at_ (t.wk o).key).first))
  exact ⟨⟨⟨h1, h2, h.nd (by omega) hw.at_, hw.old⟩, h4.1⟩, h.turn hw.at_ _ h3 h4 (by omega), hg, OutI.mono h hg (n := c.path.length) (by omega) (OutI.goes hc (Nat.le_refl _) (s := .fin o th) ⟨⟨h1, h2⟩, h5⟩), by show t.ns.length ≤ _; omega, by show t.ws.length ≤ _; omega, hn.1, hn.2⟩
theorem stepI_fin (h : TI t) (hc : CC t c) (hb : Bd t c) {o : Nat} {th : Th} (hs : SI t c (.fin o th)) : StepI t c (.fin o th) := by
  obtain ⟨⟨h1, h2⟩, h5⟩ := hs
  have hns := hb.ns
  have hws := hb.ws
  have hw := h.wks o h1 h2
  have hpk := packW_div (s := 0) (i := o) (by omega) (by omega)
  have hwd : WdOk t (packW 0 (o : Int)) := by
    refine ⟨by rw [hpk.1]; omega, fun _ => ?_⟩
    rw [hpk.2]
    exact ⟨fun e => by omega, fun e => by omega⟩
  have hg : Gr t (stepP t c (.fin o th)).1 := Gr.of rfl rfl
  have hn := MS.cas_n t.ms (t.word (t.wk o).at_) (packW (t.wk o).state (o : Int)) (packW 0 (o : Int))
  refine ⟨⟨⟨h1, h2, h.nd (by omega) hw.at_, hw.old⟩, ?_⟩, (h.wcas hw.at_ _ _ hwd (isU_packW _ _) (fun _ => by rw [hpk.2]; omega)).done o, hg, (run_si hc h5).mono h hg (by omega), by show t.ns.length ≤ _; omega, by show t.ws.length ≤ _; omega, hn.1, hn.2⟩
  cases th with
  | told l => exact h5.1.imp id (fun e => ⟨e, h5.2⟩)
  | look => trivial
  | fail => exact ⟨h5.1, ne_nil_of_len (by have := h5.2; omega)⟩
theorem ti_step (h : TI t) (hc : CC t c) (hb : Bd t c) {s : Stp} (hs : SI t c s) : StepI t c s := by
  cases s with
  | desc b m => exact stepI_desc h hc hb hs
  | beg => exact stepI_beg h hc hb hs
  | look => exact stepI_look h hc hb hs
  | down => exact stepI_down h hc hb hs
  | grow l => exact stepI_grow h hc hb hs
  | lose l => exact stepI_lose h hc hb hs
  | mark o th fl => exact stepI_mark h hc hb hs
  | drop o th => exact stepI_drop h hc hb hs
  | take o nx th => exact stepI_take h hc hb hs
  | fin o th => exact stepI_fin h hc hb hs
theorem SI.stpIn (hc : CC t c) : ∀ {s : Stp}, SI t c s → StpIn t.ns.length t.ws.length s
  | .desc b m, _ => trivial
  | .beg, _ => trivial
  | .look, _ => trivial
  | .down, _ => trivial
  | .grow l, h => h.2.2.1
  | .lose l, h => h.2.2
  | .mark o th fl, h => ⟨h.1.1, h.1.2, by cases th <;> first | exact h.2.2.1.2 | trivial, by cases fl <;> first | exact h.2.2.2.2 | trivial⟩
  | .drop o th, h => ⟨h.1.1, h.1.2, by cases th <;> first | exact h.2.2.2 | trivial⟩
  | .take o q th, h => ⟨h.1.1, h.1.2, h.2.2.1.1, by cases th <;> first | exact h.2.2.2.2 | trivial⟩
  | .fin o th, h => ⟨h.1.1, h.1.2, by cases th <;> first | exact h.2.2 | trivial⟩
/-- a tree grows with each step -/
theorem step_gr (t : Tr) (c : Cl) (s : Stp) : Gr t (stepP t c s).1 ∧ t.ms.n ≤ (stepP t c s).1.ms.n := by
  cases s with
  | desc b m => exact ⟨Gr.of rfl rfl, (ask_n t _).1⟩
  | beg => exact ⟨Gr.of rfl rfl, (ask_n t _).1⟩
  | look => exact ⟨Gr.of rfl rfl, (ask_n t _).1⟩
  | down => exact ⟨Gr.of rfl rfl, (ask_n t _).1⟩
  | grow l =>
    simp only [stepP]
    split
    · split
      · have h1 := Gr.begin t ⟨1, c.key, (c.up 0).node, l, some (t.ns.length + 2), 0⟩ (c.up 0).seen
        have h2 := Gr.split (t.begin ⟨1, c.key, (c.up 0).node, l, some (t.ns.length + 2), 0⟩ (c.up 0).seen) l c.key c.val
        exact ⟨h1.1.trans h2.1, by rw [h2.2.2.2.1]; exact (begin_n t _ _).1⟩
      · exact ⟨(Gr.begin t _ _).1, (begin_n t _ _).1⟩
    · exact ⟨Gr.of rfl rfl, (ask_n t _).1⟩
  | lose l => exact ⟨(Gr.begin t _ _).1, (begin_n t _ _).1⟩
  | mark o th fl => exact ⟨Gr.of rfl rfl, (MS.cas_n _ _ _ _).1⟩
  | drop o th => exact ⟨Gr.of rfl rfl, (ask_n t _).1⟩
  | take o nx th => exact ⟨Gr.of rfl rfl, (MS.cas_n _ _ _ _).1⟩
  | fin o th => exact ⟨Gr.of rfl rfl, (MS.cas_n _ _ _ _).1⟩
theorem run_gr : ∀ (n : Nat) {t : Tr} {c : Cl} {s : Stp} {T : Tr} {C : Cl}, OkRun n t c s T C → Gr t T
  | 0, _, _, _, _, _, h => h.elim
  | n + 1, t, c, s, T, C, ⟨_, _, h3⟩ => by
    have hg := (step_gr t c s).1
    cases ho : (stepP t c s).2.2 with
    | none => rw [ho] at h3; obtain ⟨rfl, _⟩ := h3; exact hg
    | some s' => rw [ho] at h3; exact hg.trans (run_gr n h3)
/-- what holds stays while a call runs -/
theorem ti_run : ∀ (n : Nat) {t : Tr} {c : Cl} {s : Stp} {T : Tr} {C : Cl}, OkRun n t c s T C → TI t → CC t c → SI t c s → T.ns.length ≤ 60000 → TI T
  | 0, _, _, _, _, _, h, _, _, _, _ => h.elim
  | n + 1, t, c, s, T, C, h, ht, hc, hs, hN => by
    have hgT := run_gr (n + 1) h
    obtain ⟨_, sm, h3⟩ := h
    have hb : Bd t c := ⟨Nat.le_trans hgT.nl hN, sm.asked, sm.ws, sm.path⟩
    obtain ⟨_, k2, k3, ⟨k4, k5, k6, k7⟩, _⟩ := ti_step ht hc hb hs
    cases ho : (stepP t c s).2.2 with
    | none => rw [ho] at h3; obtain ⟨rfl, _⟩ := h3; exact k2
    | some s' => rw [ho] at h3; exact ti_run n h3 k2 k5 (k6 s' ho) hN
theorem TI.sameC {T : Tr} (h : TI t) (hs : SameC t T) : TI T := by
  obtain ⟨ns, ws, live, ms⟩ := T
  obtain ⟨h1, h2, h3, h4⟩ := hs
  dsimp only at h1 h2 h3 h4
  subst h1; subst h2; subst h3
  exact h.same ms (by rw [h4]) (by rw [h4]; exact h.isu) (fun x => by unfold MS.at MS.has; rw [h4])
theorem TI.new (ms : MS) (hc : ms.c.length = 0) : TI (Tr.new ms) := by
  obtain ⟨c, n⟩ := ms
  have hc' : c = [] := List.length_eq_zero_iff.1 hc
  subst hc'
  have hi : ∀ p, Inn (Tr.new ⟨[], n⟩) p → p = 2 := fun p hp => by
    obtain ⟨h1, h2⟩ := hp
    have h1' : p < 3 := h1
    match p, h1' with
    | 0, _ => cases h2
    | 1, _ => cases h2
    | 2, _ => rfl
  have hl : (Tr.new ⟨[], n⟩).ns.length = 3 := rfl
  have kl : (Tr.new ⟨[], n⟩).kid ((Tr.new ⟨[], n⟩).left 2) = 0 := by kernel_rfl
  have kr : (Tr.new ⟨[], n⟩).kid ((Tr.new ⟨[], n⟩).right 2) = 1 := by kernel_rfl
  exact {
    len := rfl
    mod := by rw [hl]
    three := Nat.le_refl _
    inn := fun p hp => by rw [hi p hp]; exact ⟨rfl, rfl⟩
    two := ⟨rfl, rfl⟩
    kidl := fun p hp => by rw [hi p hp, kl, hl]; omega
    kidr := fun p hp => by rw [hi p hp, kr, hl]; omega
    finr := fun p hp _ => by rw [hi p hp, kr]; rfl
    fin2 := by rw [kl]; rfl
    isu := fun x hx => by
      have hx' : x ∈ [(0 : Int), 0, 0] := hx
      simp at hx'
      subst hx'; unfold IsU; omega
    wks := fun i h0 hi => by have hi' : i ≤ 0 := hi; omega
    live := fun i hi => by cases hi
    word := fun p hp => by
      rw [hi p hp]
      have e : (Tr.new ⟨[], n⟩).ms.at ((Tr.new ⟨[], n⟩).word 2) = 0 := rfl
      rw [e]
      exact ⟨by simp, fun h => by simp at h⟩
    word2 := by
      have e : (Tr.new ⟨[], n⟩).ms.at ((Tr.new ⟨[], n⟩).word 2) = 0 := rfl
      rw [e]; decide }
/-- calls that were made -/
theorem ins_made (k : ByteArray) (v : Int) : CC t (Cl.new .ins k v) ∧ SI t (Cl.new .ins k v) .beg := ⟨⟨by simp [Cl.new], by simp [Cl.new], by simp [Cl.new], fun _ => rfl⟩, rfl⟩
theorem rem_made (h : TI t) (k : ByteArray) : CC t (Cl.new .rem k 0).start ∧ SI t (Cl.new .rem k 0).start (.desc (t.toward 2 k) .way) := by
  refine ⟨⟨fun ps hps => ?_, fun i ps hps => ?_, by simp [Cl.new, Cl.start], fun _ => rfl⟩, trivial, ⟨2, h.inn2, toward_or t 2 k⟩, fun _ => ⟨by simp [Cl.new, Cl.start], fun _ => toward_two h k⟩, fun e => by cases e⟩
  · have hps' : ps ∈ [(⟨2, false, 0⟩ : Ps)] := hps
    simp only [List.mem_singleton] at hps'
    subst hps'; exact h.inn2
  · have hps' : [(⟨2, false, 0⟩ : Ps)][i]? = some ps := hps
    have hi := (List.getElem?_eq_some_iff.1 hps').1
    simp at hi
    subst hi
    simp at hps'
    subst hps'
    simp
theorem fnd_made (h : TI t) (k : ByteArray) : CC t (Cl.new .fnd k 0) ∧ SI t (Cl.new .fnd k 0) (.desc (t.toward 2 k) .find) := ⟨⟨by simp [Cl.new], by simp [Cl.new], by simp [Cl.new], fun _ => rfl⟩, trivial, ⟨2, h.inn2, toward_or t 2 k⟩, (fun e => by cases e), (fun e => by cases e)⟩
end
end Go.Proofs.Ytmhiolhgofackaa
