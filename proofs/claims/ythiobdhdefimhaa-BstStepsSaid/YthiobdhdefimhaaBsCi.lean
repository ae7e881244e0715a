/- PACKAGE bst, PLAINLY: what holds of a call between any two steps, whoever steps -/
import Derived.Test.YthiobdhdefimhaaBsTi
namespace Go.Proofs.Ythiobdhdefimhaa
open Go.RowKit
set_option linter.unusedVariables false
set_option linter.unusedSimpArgs false

/-- nodes and works come, and stay as they are -/
structure Gr (t t' : Tr) : Prop where
  nl : t.ns.length ≤ t'.ns.length
  nd : ∀ p, p < t.ns.length → t'.nd p = t.nd p
  wl : t.ws.length ≤ t'.ws.length
  wk : ∀ i, 1 ≤ i → i ≤ t.ws.length → t'.wk i = t.wk i
theorem Gr.refl (t : Tr) : Gr t t := ⟨Nat.le_refl _, fun _ _ => rfl, Nat.le_refl _, fun _ _ _ => rfl⟩
theorem Gr.trans {a b c : Tr} (h : Gr a b) (k : Gr b c) : Gr a c := ⟨Nat.le_trans h.nl k.nl, fun p hp => (k.nd p (Nat.lt_of_lt_of_le hp h.nl)).trans (h.nd p hp), Nat.le_trans h.wl k.wl, fun i h0 hi => (k.wk i h0 (Nat.le_trans hi h.wl)).trans (h.wk i h0 hi)⟩
theorem Gr.of {t t' : Tr} (hn : t'.ns = t.ns) (hw : t'.ws = t.ws) : Gr t t' := ⟨by rw [hn]; exact Nat.le_refl _, fun p _ => by unfold Tr.nd; rw [hn], by rw [hw]; exact Nat.le_refl _, fun i _ _ => by unfold Tr.wk; rw [hw]⟩
theorem Gr.inn {t t' : Tr} (h : Gr t t') {p : Nat} (hp : Inn t p) : Inn t' p := ⟨Nat.lt_of_lt_of_le hp.1 h.nl, by rw [h.nd p hp.1]; exact hp.2⟩
theorem Gr.nx {t t' : Tr} (h : Gr t t') {o q : Nat} (ho : o < t.ns.length) (hp : NxOk t o q) : NxOk t' o q := ⟨Nat.lt_of_lt_of_le hp.1 h.nl, hp.2.1, by rw [h.nd o ho, h.nd q hp.1]; exact hp.2.2⟩
def OI (t : Tr) (o : Nat) : Prop := 1 ≤ o ∧ o ≤ t.ws.length
def Upd (c : Cl) : Prop := c.kd = .ins ∨ c.kd = .rem
def ThI (t : Tr) (c : Cl) : Th → Prop
  | .told l => Upd c ∧ l < t.ns.length
  | .look => Upd c ∧ c.path ≠ []
  | .fail => c.kd = .rem ∧ 2 ≤ c.path.length
def SI (t : Tr) (c : Cl) : Stp → Prop
  | .desc b m => MdOk c.kd m ∧ (∃ p, Inn t p ∧ (b = t.left p ∨ b = t.right p)) ∧ (m = .way → c.path ≠ [] ∧ (c.path.length = 1 → b = t.left 2)) ∧ (m = .seek → c.over ≠ none)
  | .beg => c.kd = .ins
  | .look => Upd c ∧ c.path ≠ []
  | .down => Upd c ∧ c.path ≠ []
  | .grow l => c.kd = .ins ∧ c.path ≠ [] ∧ l < t.ns.length ∧ (t.nd l).inner = false
  | .lose l => c.kd = .rem ∧ 2 ≤ c.path.length ∧ l < t.ns.length
  | .mark o th fl => OI t o ∧ (t.wk o).state = 2 ∧ ThI t c th ∧ ThI t c fl
  | .drop o th => OI t o ∧ (t.wk o).state = 2 ∧ ThI t c th
  | .take o nx th => OI t o ∧ (t.wk o).old < t.ns.length ∧ NxOk t (t.wk o).old nx ∧ ThI t c th
  | .fin o th => OI t o ∧ ThI t c th
structure CC (t : Tr) (c : Cl) : Prop where
  path : ∀ ps ∈ c.path, Inn t ps.node
  head : ∀ i ps, c.path[i]? = some ps → (ps.node = 2 ↔ i = 0)
  over : ∀ p, c.over = some p → Inn t p
  none : c.kd ≠ .sek → c.over = none
def OutI (t : Tr) (kd : Kd) (n : Nat) (o : Out) : Prop := o.1.kd = kd ∧ CC t o.1 ∧ (∀ s, o.2 = some s → SI t o.1 s) ∧ o.1.path.length ≤ n
section
variable {t t' : Tr} {c : Cl}
theorem ThI.mono (g : Gr t t') : ∀ {th : Th}, ThI t c th → ThI t' c th
  | .told l, h => ⟨h.1, Nat.lt_of_lt_of_le h.2 g.nl⟩
  | .look, h => h
  | .fail, h => h
theorem Gr.left (g : Gr t t') {p : Nat} (hp : Inn t p) : t'.left p = t.left p := by unfold Tr.left; rw [g.nd p hp.1]
theorem Gr.right (g : Gr t t') {p : Nat} (hp : Inn t p) : t'.right p = t.right p := by unfold Tr.right; rw [g.nd p hp.1]
theorem SI.mono (h : TI t) (g : Gr t t') : ∀ {s : Stp}, SI t c s → SI t' c s
  | .desc b m, ⟨h1, ⟨p, h2, h3⟩, h4, h5⟩ => ⟨h1, ⟨p, g.inn h2, by rw [g.left h2, g.right h2]; exact h3⟩, fun e => ⟨(h4 e).1, fun e2 => by rw [g.left h.inn2]; exact (h4 e).2 e2⟩, h5⟩
  | .beg, h => h
  | .look, h => h
  | .down, h => h
  | .grow l, h => ⟨h.1, h.2.1, Nat.lt_of_lt_of_le h.2.2.1 g.nl, by rw [g.nd l h.2.2.1]; exact h.2.2.2⟩
  | .lose l, h => ⟨h.1, h.2.1, Nat.lt_of_lt_of_le h.2.2 g.nl⟩
  | .mark o th fl, ⟨h1, h2, h3, h4⟩ => ⟨⟨h1.1, Nat.le_trans h1.2 g.wl⟩, by rw [g.wk o h1.1 h1.2]; exact h2, h3.mono g, h4.mono g⟩
  | .drop o th, ⟨h1, h2, h3⟩ => ⟨⟨h1.1, Nat.le_trans h1.2 g.wl⟩, by rw [g.wk o h1.1 h1.2]; exact h2, h3.mono g⟩
  | .take o nx th, ⟨h1, h0, h2, h3⟩ => ⟨⟨h1.1, Nat.le_trans h1.2 g.wl⟩, by rw [g.wk o h1.1 h1.2]; exact Nat.lt_of_lt_of_le h0 g.nl, by rw [g.wk o h1.1 h1.2]; exact g.nx h0 h2, h3.mono g⟩
  | .fin o th, ⟨h1, h3⟩ => ⟨⟨h1.1, Nat.le_trans h1.2 g.wl⟩, h3.mono g⟩
theorem CC.mono (g : Gr t t') (h : CC t c) : CC t' c := ⟨fun ps hp => g.inn (h.path ps hp), h.head, fun p hp => g.inn (h.over p hp), h.none⟩
theorem OutI.mono (h : TI t) (g : Gr t t') {kd : Kd} {n m : Nat} {o : Out} (hm : n ≤ m) (ho : OutI t kd n o) : OutI t' kd m o := ⟨ho.1, ho.2.1.mono g, fun s hs => (ho.2.2.1 s hs).mono h g, Nat.le_trans ho.2.2.2 hm⟩
theorem CC.clIn (h : CC t c) : ClIn t.ns.length c := ⟨fun p hp => (h.path p hp).1, fun p hp => (h.over p hp).1⟩
theorem up_get {n : Nat} (hn : n < c.path.length) : c.path[c.path.length - 1 - n]? = some (c.up n) := by
  unfold Cl.up
  rw [List.getD_eq_getElem?_getD, List.getElem?_eq_getElem (by omega)]
  rfl
theorem CC.up (h : CC t c) {n : Nat} (hn : n < c.path.length) : Inn t (c.up n).node ∧ ((c.up n).node = 2 ↔ c.path.length - 1 - n = 0) :=
  ⟨h.path _ (List.mem_of_getElem? (up_get hn)), h.head _ _ (up_get hn)⟩
theorem CC.cut (h : CC t c) (n : Nat) : CC t (c.cut n) := ⟨fun ps hp => h.path ps (List.mem_of_mem_take hp), fun i ps hp => h.head i ps (by
  have hp' : (c.path.take (c.path.length - n))[i]? = some ps := hp
  rw [List.getElem?_take] at hp'
  split at hp'
  · exact hp'
  · cases hp'), h.over, h.none⟩
theorem cut_len (c : Cl) (n : Nat) : (c.cut n).path.length = c.path.length - n := by
  show (c.path.take (c.path.length - n)).length = _
  rw [List.length_take]; omega
theorem cut_up {n : Nat} (hn : n + 1 ≤ c.path.length) : (c.cut n).up 0 = c.up n := by
  have h1 := up_get (c := c.cut n) (n := 0) (by rw [cut_len]; omega)
  have h2 := up_get (c := c) (n := n) (by omega)
  have h3 : (c.path.take (c.path.length - n))[(c.cut n).path.length - 1 - 0]? = some ((c.cut n).up 0) := h1
  rw [cut_len, List.getElem?_take, if_pos (by omega)] at h3
  have e : c.path.length - n - 1 - 0 = c.path.length - 1 - n := by omega
  rw [e, h2] at h3
  exact (Option.some.inj h3).symm
theorem CC.pass (h : CC t c) {n : Nat} (hn : Inn t n) (h2 : n ≠ 2) (hp : c.path ≠ []) : CC t (c.pass n) := by
  have hl : 0 < c.path.length := List.length_pos_iff.2 hp
  refine ⟨fun ps hps => ?_, fun i ps hps => ?_, h.over, h.none⟩
  · rcases List.mem_append.1 hps with hps | hps
    · exact h.path ps hps
    · simp only [List.mem_singleton] at hps; subst hps; exact hn
  · have hps' : (c.path ++ [⟨n, false, 0⟩])[i]? = some ps := hps
    by_cases hi : i < c.path.length
    · rw [List.getElem?_append_left hi] at hps'; exact h.head i ps hps'
    · rw [List.getElem?_append_right (by omega)] at hps'
      have hi2 := (List.getElem?_eq_some_iff.1 hps').1
      simp at hi2
      have e : i - c.path.length = 0 := by omega
      rw [e] at hps'
      simp at hps'
      subst hps'
      exact ⟨fun e => absurd e h2, fun e => by omega⟩
theorem CC.saw (h : CC t c) (was : Int) (hp : c.path ≠ []) : CC t (c.saw was) := by
  have hl : 0 < c.path.length := List.length_pos_iff.2 hp
  obtain ⟨u1, u2⟩ := h.up (n := 0) hl
  refine ⟨fun ps hps => ?_, fun i ps hps => ?_, h.over, h.none⟩
  · rcases List.mem_or_eq_of_mem_set hps with hps | rfl
    · exact h.path ps hps
    · exact u1
  · have hps' : (c.path.set (c.path.length - 1) ⟨(c.up 0).node, true, was⟩)[i]? = some ps := hps
    rw [List.getElem?_set] at hps'
    split at hps'
    · rename_i e
      rw [if_pos (by omega)] at hps'
      simp only [Option.some.injEq] at hps'
      subst hps'
      rw [← e]
      simpa using u2
    · exact h.head i ps hps'
theorem saw_len (c : Cl) (was : Int) : (c.saw was).path.length = c.path.length := by
  show (c.path.set _ _).length = _
  simp
theorem CC.tell (h : CC t c) (a : An) : CC t (c.tell a) := ⟨h.path, h.head, h.over, h.none⟩
theorem OutI.told (h : CC t c) {n : Nat} (hn : c.path.length ≤ n) (a : An) : OutI t c.kd n (c.tell a, none) := ⟨rfl, h.tell a, (fun s e => by cases e), hn⟩
theorem OutI.goes (h : CC t c) {n : Nat} (hn : c.path.length ≤ n) {s : Stp} (hs : SI t c s) : OutI t c.kd n (c, some s) := ⟨rfl, h, (fun s' e => by cases e; exact hs), hn⟩
theorem OutI.found (h : CC t c) {n : Nat} (hn : c.path.length ≤ n) (l : Nat) : OutI t c.kd n (c.found t l) := by
  unfold Cl.found
  split
  · exact OutI.told h hn _
  · exact OutI.told h hn _
theorem ne_nil_of_len {α : Type} {l : List α} (h : 1 ≤ l.length) : l ≠ [] := fun e => by rw [e] at h; simp at h
theorem leaf_si (h : TI t) (hc : CC t c) {l : Nat} (hl : l < t.ns.length) (hi : (t.nd l).inner = false) {m : Md} (hm : MdOk c.kd m) (hp : m = .way → c.path ≠ []) (hs : m = .seek → c.over ≠ none) (hr : c.kd = .rem → (t.nd l).has c.key = true → 2 ≤ c.path.length) :
    OutI t c.kd c.path.length (c.leaf t l m) := by
  have hle := Nat.le_refl c.path.length
  unfold Cl.leaf
  cases hk : c.kd with
  | ins =>
    rw [hk] at hm
    dsimp only
    have hw : m = .way := by cases m <;> simp [MdOk] at hm ⊢
    split
    · rw [← hk]; exact OutI.told hc hle _
    · split
      · rw [← hk]; exact OutI.told hc hle _
      · split
        · have := OutI.goes hc hle (s := .grow l) ⟨hk, hp hw, hl, hi⟩; rw [hk] at this; exact this
        · have := OutI.goes hc hle (s := .look) ⟨Or.inl hk, hp hw⟩; rw [hk] at this; exact this
  | rem =>
    rw [hk] at hm
    dsimp only
    split
    · rename_i hh
      have h2 := hr hk hh
      split
      · have := OutI.goes hc hle (s := .lose l) ⟨hk, h2, hl⟩; rw [hk] at this; exact this
      · have := OutI.goes (hc.cut 1) (n := c.path.length) (by rw [cut_len]; omega) (s := .look) ⟨Or.inr hk, ne_nil_of_len (by rw [cut_len]; omega)⟩
        have e : (c.cut 1).kd = .rem := hk
        rw [e] at this; exact this
    · rw [← hk]; exact OutI.told hc hle _
  | fnd =>
    dsimp only
    split
    · rw [← hk]; exact OutI.told hc hle _
    · rw [← hk]; exact OutI.told hc hle _
  | sek =>
    rw [hk] at hm
    cases m with
    | seek =>
      dsimp only
      split
      · rw [← hk]; exact OutI.found hc hle l
      · cases ho : c.over with
        | none => exact absurd ho (hs rfl)
        | some p =>
          have := OutI.goes hc hle (s := .desc (t.right p) .left) ⟨by rw [hk]; trivial, ⟨p, hc.over p ho, Or.inr rfl⟩, (fun e => by cases e), fun e => by cases e⟩
          rw [hk] at this; exact this
    | left => dsimp only; rw [← hk]; exact OutI.found hc hle l
    | find => exact absurd hm id
    | way => exact absurd hm id
theorem leaf_ok (h : TI t) (hc : CC t c) {l : Nat} (hl : l < t.ns.length) (hb : t.ns.length ≤ 65536) (hpl : c.path.length ≤ 1000000000) {m : Md} (hm : MdOk c.kd m) (hp : m = .way → c.path ≠ []) (hs : m = .seek → c.over ≠ none) (hr : c.kd = .rem → (t.nd l).has c.key = true → 2 ≤ c.path.length) : LeafOk t c l m := by
  refine ⟨hl, hpl, fun hk => ?_, hr, fun hk e _ => ?_⟩
  · rw [hk] at hm
    exact hp (by cases m <;> simp [MdOk] at hm ⊢)
  · cases ho : c.over with
    | none => exact absurd ho (hs e)
    | some p => exact ⟨p, rfl, h.nd hb (hc.over p ho)⟩
/-- where a step down leads -/
theorem desc_si (h : TI t) (hc : CC t c) {b : Br} {m : Md} (hb : t.ns.length ≤ 65536) (hpl : c.path.length ≤ 1000000000) (hs : SI t c (.desc b m)) : DescOk t c (t.kid b) m ∧ OutI t c.kd (c.path.length + 1) (c.desc t (t.kid b) m) := by
  obtain ⟨h1, ⟨p, h2, h3⟩, h4, h5⟩ := hs
  obtain ⟨n, hn⟩ : ∃ n, n = t.kid b := ⟨_, rfl⟩
  have hk : n < t.ns.length ∧ n ≠ 2 := by
    rw [hn]
    rcases h3 with e | e
    · rw [e]; exact h.kidl p h2
    · rw [e]; exact h.kidr p h2
  have hr : c.kd = .rem → (t.nd n).has c.key = true → 2 ≤ c.path.length := fun e e2 => by
    rw [e] at h1
    obtain ⟨h6, h7⟩ := h4 (by cases m <;> simp [MdOk] at h1 ⊢)
    have hl : 0 < c.path.length := List.length_pos_iff.2 h6
    by_cases e1 : c.path.length = 1
    · have hf := h.fin2
      rw [← h7 e1, ← hn] at hf
      unfold Nd.has at e2
      rw [hf] at e2; cases e2
    · omega
  rw [← hn]
  refine ⟨⟨hk.1, by omega, fun hi => h.nd hb ⟨hk.1, hi⟩, fun hi => leaf_ok h hc hk.1 hb (by omega) h1 (fun e => (h4 e).1) h5 hr⟩, ?_⟩
  unfold Cl.desc
  by_cases hi : (t.nd n).inner = true
  · rw [if_pos hi]
    have hin : Inn t n := ⟨hk.1, hi⟩
    cases m with
    | find => exact ⟨rfl, hc, fun s e => by
        simp only [Option.some.injEq] at e; subst e
        exact ⟨h1, ⟨n, hin, toward_or t n c.key⟩, (fun e => by cases e), fun e => by cases e⟩, by show c.path.length ≤ _; omega⟩
    | left => exact ⟨rfl, hc, fun s e => by
        simp only [Option.some.injEq] at e; subst e
        exact ⟨h1, ⟨n, hin, Or.inl rfl⟩, (fun e => by cases e), fun e => by cases e⟩, by show c.path.length ≤ _; omega⟩
    | seek =>
      have hks : c.kd = .sek := by cases hkk : c.kd <;> rw [hkk] at h1 <;> simp [MdOk] at h1 ⊢
      unfold Cl.toward
      dsimp only
      by_cases ha : (t.nd n).above c.key = true
      · rw [if_pos ha]
        exact ⟨rfl, ⟨hc.path, hc.head, fun q e => by simp only [Option.some.injEq] at e; subst e; exact hin, fun e => absurd hks e⟩, fun s e => by
          simp only [Option.some.injEq] at e; subst e
          exact ⟨h1, ⟨n, hin, toward_or t n c.key⟩, (fun e => by cases e), fun _ e => by cases e⟩, by show c.path.length ≤ _; omega⟩
      · rw [if_neg ha]
        exact ⟨rfl, hc, fun s e => by
          simp only [Option.some.injEq] at e; subst e
          exact ⟨h1, ⟨n, hin, toward_or t n c.key⟩, (fun e => by cases e), h5⟩, by show c.path.length ≤ _; omega⟩
    | way =>
      have hne := (h4 rfl).1
      have hl : 0 < c.path.length := List.length_pos_iff.2 hne
      have hpl2 : (c.pass n).path.length = c.path.length + 1 := by show (c.path ++ [_]).length = _; simp
      exact ⟨rfl, hc.pass hin hk.2 hne, fun s e => by
        simp only [Option.some.injEq] at e; subst e
        exact ⟨h1, ⟨n, hin, toward_or t n c.key⟩, fun _ => ⟨ne_nil_of_len (by show 1 ≤ (c.pass n).path.length; omega), fun e => by
          have e' : (c.pass n).path.length = 1 := e
          omega⟩, fun e => by cases e⟩, by show (c.pass n).path.length ≤ _; omega⟩
  · rw [if_neg hi]
    exact (leaf_si h hc hk.1 (by simpa using hi) h1 (fun e => (h4 e).1) h5 hr).mono h (Gr.refl t) (by omega)
theorem WdOk.hlp (h : TI t) {x : Int} (hx : WdOk t x) : HlpOk t x := fun e => by
  obtain ⟨h1, h2⟩ := h.live _ e
  refine ⟨h1, h2, fun e1 => ?_⟩
  have h3 := (hx.2 (by omega)).1 e1
  rcases (h.wks _ h1 h2).kind with ⟨_, q, hq⟩ | ⟨h4, _⟩
  · exact ⟨q, hq⟩
  · rw [h3] at h4; cases h4
theorem run_si (hc : CC t c) {th : Th} (ht : ThI t c th) : OutI t c.kd c.path.length (c.run t th) := by
  cases th with
  | told l => exact OutI.told hc (Nat.le_refl _) _
  | look => exact OutI.goes hc (Nat.le_refl _) (s := .look) ht
  | fail =>
    obtain ⟨h1, h2⟩ := ht
    exact OutI.goes (hc.cut 1) (n := c.path.length) (by rw [cut_len]; omega) (s := .look) ⟨Or.inr h1, ne_nil_of_len (by rw [cut_len]; omega)⟩
theorem help_si (h : TI t) (hc : CC t c) {x : Int} (hx : WdOk t x) (h0 : x % 4 ≠ 0) {th : Th} (ht : ThI t c th) : OutI t c.kd c.path.length (c.help t x th) := by
  unfold Cl.help
  split
  · rename_i e
    obtain ⟨h1, h2⟩ := h.live _ e
    have hw := h.wks _ h1 h2
    obtain ⟨g1, g2⟩ := hx.2 (by omega)
    split
    · rename_i e1
      rcases hw.kind with ⟨_, q, hq⟩ | ⟨h4, _⟩
      · refine OutI.goes hc (Nat.le_refl _) (s := .take _ _ th) ⟨⟨h1, h2⟩, hw.old, ?_, ht⟩
        rw [hq]; exact hw.nxt q hq
      · rw [g1 e1] at h4; cases h4
    · split
      · rename_i e2
        exact OutI.goes hc (Nat.le_refl _) (s := .mark _ th th) ⟨⟨h1, h2⟩, g2 (Or.inl e2), ht, ht⟩
      · exact OutI.goes hc (Nat.le_refl _) (s := .drop _ th) ⟨⟨h1, h2⟩, g2 (Or.inr (by omega)), ht⟩
  · exact run_si hc ht
theorem met_si (h : TI t) (hc : CC t c) (hu : Upd c) (hp : c.path ≠ []) : OutI t c.kd c.path.length (c.met t (t.ms.at (t.word (c.up 0).node))) := by
  have hl : 0 < c.path.length := List.length_pos_iff.2 hp
  obtain ⟨u1, u2⟩ := hc.up (n := 0) hl
  have hw := h.word _ u1
  have h2 : t.ms.at (t.word (c.up 0).node) % 4 = 3 → 2 ≤ c.path.length := fun e => by
    by_cases e1 : c.path.length = 1
    · have := u2.2 (by omega)
      rw [this] at e
      exact absurd e h.word2
    · omega
  unfold Cl.met
  split
  · exact OutI.goes (hc.saw _ hp) (n := c.path.length) (by rw [saw_len]; omega) (s := .down) ⟨hu, ne_nil_of_len (by rw [saw_len]; omega)⟩
  · split
    · rename_i e
      have := help_si h (hc.cut 1) hw (by omega) (th := .look) ⟨hu, ne_nil_of_len (by rw [cut_len]; have := h2 e; omega)⟩
      exact this.mono h (Gr.refl t) (by rw [cut_len]; omega)
    · exact help_si h hc hw (by assumption) (th := .look) ⟨hu, hp⟩
end
end Go.Proofs.Ythiobdhdefimhaa
