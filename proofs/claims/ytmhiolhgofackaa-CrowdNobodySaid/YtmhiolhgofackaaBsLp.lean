/- PACKAGE bst, PLAINLY: what a call knows of the tree, whoever steps meanwhile
PACKAGE bst, PLAINLY: what a call knows stays, whoever steps
PACKAGE bst, PLAINLY: what a call knows behind a step that only asks
PACKAGE bst, PLAINLY: what a step does to what the tree holds
PACKAGE bst, PLAINLY: each step that turns a word, or a child
PACKAGE bst, PLAINLY: each step that begins a work; all steps
PACKAGE bst, PLAINLY: an empty tree; a call alone; calls that were made -/
import Derived.Test.YtmhiolhgofackaaBsLi
namespace Go.Proofs.Ytmhiolhgofackaa
open Go.RowKit
set_option linter.unusedVariables false
set_option linter.unusedSimpArgs false

def present (t : Tr) (L : PT) (k : ByteArray) : Bool := (cont t L k).isSome
/-- a node that stands, or stood, on a key's way: what was there then was seen -/
inductive ReachN (t : Tr) (L : PT) (k : ByteArray) (seen : Bool → Prop) : Nat → Prop
  | on {x : Nat} : OnPath t k x → ReachN t L k seen x
  | leaf {x : Nat} : LfOk t x → seen ((t.nd x).has k) → ReachN t L k seen x
  | off {p : Nat} : Inn t p → p ∉ (whole L).inners → t.wd p % 4 = 3 → ReachN t L k seen (t.kid (t.toward p k)) → ReachN t L k seen p
def Doom (t : Tr) (o : Nat) : Prop := t.wd (t.wk o).old ≠ packW 3 o ∧ rk (t.wk o).seen < rk (t.wd (t.wk o).old)
/-- what others need not fear -/
structure Kp (t t' : Tr) (L L' : PT) : Prop where
  gr : Gr t t'
  rank : ∀ p, Inn t p → t'.wd p = t.wd p ∨ rk (t.wd p) < rk (t'.wd p)
  mark : ∀ p, Inn t p → t.wd p % 4 = 3 → t'.wd p = t.wd p
  kids : ∀ p, Inn t p → (t.wd p % 4 = 3 ∨ t.wd p % 4 = 0) → t'.kid (t.left p) = t.kid (t.left p) ∧ t'.kid (t.right p) = t.kid (t.right p)
  trn : ∀ o, OI t o → Trn t (whole L) o → Trn t' (whole L') o
  doom : ∀ o, OI t o → (t.wk o).state = 2 → Doom t o → Doom t' o
  reach : ∀ (k : ByteArray) (seen : Bool → Prop), seen (present t L k) → ∀ x, ReachN t L k seen x → ReachN t' L' k seen x
section
variable {t t' : Tr} {L L' : PT} {k : ByteArray} {seen seen' : Bool → Prop}
theorem ReachN.mono (hs : ∀ b, seen b → seen' b) {x : Nat} (h : ReachN t L k seen x) : ReachN t L k seen' x := by
  induction h with
  | on h => exact .on h
  | leaf h1 h2 => exact .leaf h1 (hs _ h2)
  | off h1 h2 h3 _ ih => exact .off h1 h2 h3 ih
theorem present_path (h : LI t L) (hti : TI t) {x : Nat} (hx : OnPath t k x) (hl : (t.nd x).inner = false) : present t L k = (t.nd x).has k := by
  unfold present
  rw [cont_path h hti hx hl]
  split
  · rename_i e; rw [e]; rfl
  · rename_i e; simp only [Bool.not_eq_true] at e; rw [e]; rfl
theorem ReachN.found (h : LI t L) (hti : TI t) (hn : seen (present t L k)) {x : Nat} (hx : ReachN t L k seen x) (hl : (t.nd x).inner = false) : seen ((t.nd x).has k) := by
  cases hx with
  | on h1 => rw [← present_path h hti h1 hl]; exact hn
  | leaf h1 h2 => exact h2
  | off h1 => have := h1.2; rw [hl] at this; cases this
theorem ReachN.kid {p : Nat} (hx : ReachN t L k seen p) (hp : Inn t p) : ReachN t L k seen (t.kid (t.toward p k)) := by
  cases hx with
  | on h1 => exact .on (.step h1 hp)
  | leaf h1 => have := h1.2; rw [hp.2] at this; cases this
  | off _ _ _ h4 => exact h4
/-- it stands in the tree, or is marked -/
theorem ReachN.sit (h : LI t L) {p : Nat} (hx : ReachN t L k seen p) (hp : Inn t p) : (p ∈ (whole L).inners ∧ OnPath t k p) ∨ (p ∉ (whole L).inners ∧ t.wd p % 4 = 3) := by
  cases hx with
  | on h1 => exact Or.inl ⟨inner_mem h.kt (onpath_mem h.kt rfl h1) hp.2, h1⟩
  | leaf h1 => have := h1.2; rw [hp.2] at this; cases this
  | off _ h2 h3 _ => exact Or.inr ⟨h2, h3⟩
/-- a word is turned -/
theorem Wc.kp {p0 : Nat} (h : LI t L) (hti : TI t) (w : Wc t t' p0) (hp0 : p0 ∈ (whole L).inners) (h3 : t.wd p0 % 4 ≠ 3)
    (hm : ∀ i, OI t i → (t.wk i).state = 2 → (t.wk i).old = p0 → t'.wd p0 = packW 3 i → t.wd p0 = (t.wk i).seen) : Kp t t' L L := by
  refine ⟨w.gr, fun p hp => ?_, fun p hp hx => w.off p hp (fun e => h3 (by rw [← e]; exact hx)), fun p hp _ => w.kid p hp, fun o ho hx => w.trn ho (hti.wks o ho.1 ho.2).at_ hx, fun o ho hs hx => ?_, fun k seen hn x hx => ?_⟩
  · by_cases e : p = p0
    · rw [e]; exact Or.inr w.rise
    · exact Or.inl (w.off p hp e)
  · have hold := ((hti.wks o ho.1 ho.2).rem hs).1
    unfold Doom at hx ⊢
    rw [w.gr.wk o ho.1 ho.2]
    refine ⟨?_, by have := w.up hold; omega⟩
    by_cases e0 : (t.wk o).old = p0
    · rw [e0]
      intro hx2
      have := hm o ho hs e0 hx2
      rw [e0, this] at hx
      omega
    · rw [w.off _ hold e0]; exact hx.1
  · induction hx with
    | on h1 => exact .on (w.path h1)
    | leaf h1 h2 => exact .leaf (w.lf h1) (by rw [w.gr.nd _ h1.1]; exact h2)
    | off h1 h2 h4 _ ih =>
      refine .off (w.gr.inn h1) h2 ?_ (by rw [w.toward h1]; exact ih)
      rw [w.off _ h1 (fun e => h3 (by rw [← e]; exact h4))]; exact h4
/-- nothing is turned -/
theorem Kp.same (hn : t'.ns = t.ns) (hw : t'.ws = t.ws) (ha : ∀ x, t'.ms.at x = t.ms.at x) : Kp t t' L L := by
  have hnd : ∀ p, t'.nd p = t.nd p := fun p => by unfold Tr.nd; rw [hn]
  have hwk : ∀ i, t'.wk i = t.wk i := fun i => by unfold Tr.wk; rw [hw]
  have hwd : ∀ p, t'.wd p = t.wd p := fun p => by unfold Tr.wd Tr.word; rw [ha, hnd]
  have hkid : ∀ b, t'.kid b = t.kid b := fun b => by unfold Tr.kid; rw [ha]
  have htw : ∀ p k, t'.toward p k = t.toward p k := fun p k => by unfold Tr.toward Tr.left Tr.right; rw [hnd]
  have hin : ∀ p, Inn t p → Inn t' p := fun p hp => ⟨by rw [hn]; exact hp.1, by rw [hnd]; exact hp.2⟩
  have hon : ∀ k x, OnPath t k x → OnPath t' k x := fun k x hx => by
    induction hx with
    | root => exact .root
    | @step p h1 h2 ih => have := OnPath.step (k := k) ih (hin p h2); rw [htw, hkid] at this; exact this
  refine ⟨Gr.of hn hw, fun p _ => Or.inl (hwd p), fun p _ _ => hwd p, fun p _ _ => ⟨hkid _, hkid _⟩, fun o _ hx => ?_, fun o _ _ hx => ?_, fun k seen hnw x hx => ?_⟩
  · unfold Trn Tr.cell0 at hx ⊢
    rw [hwk, htw, hkid]; exact hx
  · unfold Doom at hx ⊢
    rw [hwk, hwd]; exact hx
  · induction hx with
    | on h1 => exact .on (hon k _ h1)
    | leaf h1 h2 => exact .leaf ⟨by rw [hn]; exact h1.1, by rw [hnd]; exact h1.2⟩ (by rw [hnd]; exact h2)
    | off h1 h2 h4 _ ih => exact .off (hin _ h1) h2 (by rw [hwd]; exact h4) (by rw [htw, hkid]; exact ih)
theorem LI.same (h : LI t L) (hn : t'.ns = t.ns) (hw : t'.ws = t.ws) (ha : ∀ x, t'.ms.at x = t.ms.at x) : LI t' L := by
  have hnd : ∀ p, t'.nd p = t.nd p := fun p => by unfold Tr.nd; rw [hn]
  have hwk : ∀ i, t'.wk i = t.wk i := fun i => by unfold Tr.wk; rw [hw]
  have hwd : ∀ p, t'.wd p = t.wd p := fun p => by unfold Tr.wd Tr.word; rw [ha, hnd]
  have hkid : ∀ b, t'.kid b = t.kid b := fun b => by unfold Tr.kid; rw [ha]
  have hl : ∀ p, t'.left p = t.left p := fun p => by unfold Tr.left; rw [hnd]
  have hr : ∀ p, t'.right p = t.right p := fun p => by unfold Tr.right; rw [hnd]
  have htw : ∀ p k, t'.toward p k = t.toward p k := fun p k => by unfold Tr.toward; rw [hnd, hl, hr]
  have hin : ∀ p, Inn t' p ↔ Inn t p := fun p => by unfold Inn; rw [hn, hnd]
  have hlf : ∀ p, LfOk t' p ↔ LfOk t p := fun p => by unfold LfOk; rw [hn, hnd]
  have hoi : ∀ p, OI t' p ↔ OI t p := fun p => by unfold OI; rw [hw]
  have hon : ∀ k x, OnPath t k x → OnPath t' k x := fun k x hx => by
    induction hx with
    | root => exact .root
    | @step p h1 h2 ih => have := OnPath.step (k := k) ih ((hin p).2 h2); rw [htw, hkid] at this; exact this
  have hkt : ∀ {T : PT}, Kt t T → Kt t' T := fun {T} => by
    induction T with
    | leaf p => exact fun h => (hlf p).2 h
    | node p l r ihl ihr => exact fun ⟨h1, h2, h3, h4, h5⟩ => ⟨(hin p).2 h1, by rw [hl, hkid]; exact h2, by rw [hr, hkid]; exact h3, ihl h4, ihr h5⟩
  have htrn : ∀ {T i}, Trn t T i → Trn t' T i := fun {T i} hx => by
    unfold Trn Tr.cell0 at hx ⊢
    rw [hwk, htw, hkid]; exact hx
  have hact : ∀ i, WkAct t' i ↔ WkAct t i := fun i => by unfold WkAct; rw [hwk, hwd]
  have hc0 : ∀ o, t'.cell0 o = t.cell0 o := fun o => by unfold Tr.cell0; rw [htw, hkid]
  refine ⟨hkt h.kt, h.nodup, ord_nd (fun p _ => hnd p) h.ord, fun p hp hx => ?_, fun p hp hx => ?_, fun p hp => ?_, fun i hi hs => ?_, fun i hi hs => ?_⟩
  · rw [hin] at hp; rw [hwd] at hx ⊢; rw [hwk]; exact h.flag p hp hx
  · rw [hin] at hp; rw [hwd] at hx ⊢; rw [hwk]; exact h.goes p hp hx
  · rw [hin] at hp
    rw [hwd]
    refine (h.sit p hp).imp id (fun e => e.imp id (fun ⟨i, f1, f2, f3, f4, f5⟩ => ⟨i, (hoi i).2 f1, by rw [hwk]; exact f2, by rw [hwk]; exact f3, (hact i).2 f4, by rw [hwk, hc0]; exact f5⟩))
  · rw [hoi] at hi; rw [hwk] at hs
    obtain ⟨g1, q, v, g2, g3⟩ := h.wk1 i hi hs
    refine ⟨⟨by rw [hwk]; exact fun hm => hon _ _ (g1.on hm), by rw [hwk, hwd]; exact g1.rk⟩, q, v, by rw [hwk]; exact g2, ?_⟩
    rcases g3 with g3 | ⟨e1, e2, e3, e4, e5⟩
    · exact Or.inl (htrn g3)
    · have lo : lowN t' (t.wk i).old (t.wk i).key v = lowN t (t.wk i).old (t.wk i).key v := by unfold lowN; rw [hnd]
      have hh : highN t' (t.wk i).old (t.wk i).key v = highN t (t.wk i).old (t.wk i).key v := by unfold highN; rw [hnd]
      refine Or.inr ⟨(hact i).2 e1, by rw [hwk, hc0]; exact e2, by rw [hwk, hlf]; exact e3, by rw [hwk, hnd]; exact e4, ?_⟩
      rw [hwk]
      exact ⟨(hin q).2 e5.inn, e5.off, by rw [hwd]; exact e5.wd, by rw [hl, hkid]; exact e5.kl, by rw [hr, hkid]; exact e5.kr, ⟨(hlf _).2 e5.l0.1, (hlf _).2 e5.l0.2⟩, by rw [hnd, lo]; exact e5.n0, by rw [hnd, hh]; exact e5.n1, by rw [hnd, hh]; exact e5.n2, fun m hm => by rw [hwk]; exact e5.olds m ((hoi m).1 hm), fun m hm hq => by rw [hwk] at hq; exact e5.one m ((hoi m).1 hm) hq⟩
  · rw [hoi] at hi; rw [hwk] at hs
    obtain ⟨g1, ⟨c1, c2, c3⟩, ⟨l, l1, l2, l3⟩, g4⟩ := h.wk2 i hi hs
    refine ⟨⟨by rw [hwk]; exact fun hm => hon _ _ (g1.on hm), by rw [hwk, hwd]; exact g1.rk⟩, ⟨by rw [hwk]; exact c1, by rw [hwk]; exact c2, by rw [hwk, hwd]; exact c3⟩, ⟨l, (hlf l).2 l1, by rw [hwk, hnd]; exact l2, by rw [hwk, hwd, htw, hkid]; exact l3⟩, ?_⟩
    rw [hwk, hwd]
    rcases g4 with ⟨e1, e2⟩ | ⟨e1, e2⟩ | e1
    · exact Or.inl ⟨(hact i).2 e1, by rw [hc0]; exact e2⟩
    · exact Or.inr (Or.inl ⟨e1, htrn e2⟩)
    · exact Or.inr (Or.inr e1)
end
end Go.Proofs.Ytmhiolhgofackaa
namespace Go.Proofs.Ytmhiolhgofackaa
open Go.RowKit
set_option linter.unusedVariables false
set_option linter.unusedSimpArgs false

section
variable {t t' : Tr} {L L' : PT}
theorem rk_seen {x s : Int} (hs : s % 4 = 0) (h : rk s ≤ rk x) (hne : x ≠ s) : rk s < rk x := by
  unfold rk at *
  rw [hs] at h ⊢
  simp only [if_true] at h ⊢
  split at h <;> split <;> omega
theorem wd_flag (hti : TI t) (hW : t.ws.length ≤ 900000000) {i : Nat} (hi : OI t i) (ha : WkAct t i) : t.wd (t.wk i).at_ % 4 = (t.wk i).state ∧ t.wd (t.wk i).at_ / 4 = i := by
  have hk := (hti.wks i hi.1 hi.2).kind
  have := packW_div (s := (t.wk i).state) (i := i) (by rcases hk with ⟨h, _⟩ | ⟨h, _⟩ <;> omega) (by have := hi.2; omega)
  unfold WkAct at ha
  rw [ha]
  exact ⟨this.2, this.1⟩
theorem Tn.kids {nx : Nat} (hti : TI t) {a : Nat} {k : ByteArray} (ha : Inn t a) (n : Tn t t' (t.toward a k) nx) {p : Nat} (hp : Inn t p) (hne : p ≠ a) : t'.kid (t.left p) = t.kid (t.left p) ∧ t'.kid (t.right p) = t.kid (t.right p) := by
  obtain ⟨h1, h2⟩ := br_ne hti hp ha k hne
  exact ⟨n.off p hp _ (Or.inl rfl) h1, n.off p hp _ (Or.inr rfl) h2⟩
theorem Tn.tow {nx : Nat} (hti : TI t) {a : Nat} {k : ByteArray} (ha : Inn t a) (n : Tn t t' (t.toward a k) nx) {p : Nat} (hp : Inn t p) (hne : p ≠ a) (k' : ByteArray) : t'.kid (t'.toward p k') = t.kid (t.toward p k') := by
  rw [n.toward]
  exact n.off p hp _ (toward_or t p k') (tow_ne hti hp ha k' k hne)
theorem InsTo.kp (h : LI t L) (hti : TI t) (hW : t.ws.length ≤ 900000000) {i q : Nat} {v : Int} (hi : OI t i) (hs : (t.wk i).state = 1) (r : InsTo t t' L i L' v) (n : Tn t t' (t.toward (t.wk i).at_ (t.wk i).key) q) : Kp t t' L L' := by
  have hwk := hti.wks i hi.1 hi.2
  have hai := hwk.at_
  have hfl := (wd_flag hti hW hi r.act.1).1
  rw [hs] at hfl
  refine ⟨Gr.of n.ns n.ws, fun p hp => Or.inl (n.wd p hp), fun p hp _ => n.wd p hp, fun p hp hx => n.kids hti hai hp (fun e => by rw [e] at hx; omega), r.trn, fun o ho hso hx => ?_, fun k seen hnw x hx => ?_⟩
  · unfold Doom at hx ⊢
    rw [n.wk, n.wd _ ((hti.wks o ho.1 ho.2).rem hso).1]; exact hx
  · induction hx with
    | @on x h1 =>
      by_cases e : x = (t.wk i).old
      · subst e
        refine .leaf ((n.lf _).2 ⟨hwk.old, r.leaf⟩) ?_
        rw [n.nd, ← present_path h hti h1 r.leaf]; exact hnw
      · exact .on (r.path k x h1 e)
    | leaf h1 h2 => exact .leaf ((n.lf _).2 h1) (by rw [n.nd]; exact h2)
    | @off p h1 h2 h4 _ ih =>
      refine .off ((n.inn p).2 h1) (fun hm => ?_) (by rw [n.wd p h1]; exact h4) ?_
      · rcases r.inn p hm with e | e
        · exact h2 e
        · rw [e] at h4; omega
      · rw [n.tow hti hai h1 (fun e => by rw [e] at h4; omega)]; exact ih
theorem DelTo.kp (h : LI t L) (hti : TI t) (hW : t.ws.length ≤ 900000000) {i l nx : Nat} (hi : OI t i) (hs : (t.wk i).state = 2) (r : DelTo t t' L i L' l nx) (n : Tn t t' (t.toward (t.wk i).at_ (t.wk i).key) nx) : Kp t t' L L' := by
  have hwk := hti.wks i hi.1 hi.2
  have hai := hwk.at_
  have hfl := (wd_flag hti hW hi r.act.1).1
  rw [hs] at hfl
  obtain ⟨o1, o2, o3⟩ := r.gone
  have hoa : (t.wk i).old ≠ (t.wk i).at_ := fun e => by rw [e] at o2; omega
  refine ⟨Gr.of n.ns n.ws, fun p hp => Or.inl (n.wd p hp), fun p hp _ => n.wd p hp, fun p hp hx => n.kids hti hai hp (fun e => by rw [e] at hx; omega), r.trn, fun o ho hso hx => ?_, fun k seen hnw x hx => ?_⟩
  · unfold Doom at hx ⊢
    rw [n.wk, n.wd _ ((hti.wks o ho.1 ho.2).rem hso).1]; exact hx
  · have hlf : OnPath t k l → ReachN t' L' k seen l := fun h1 => by
      refine .leaf ((n.lf _).2 r.leaf.1) ?_
      rw [n.nd, ← present_path h hti h1 r.leaf.1.2]; exact hnw
    induction hx with
    | @on x h1 =>
      by_cases e : x = (t.wk i).old
      · subst e
        refine .off ((n.inn _).2 o1) (fun hm => o3 (List.mem_append_left _ hm)) (by rw [n.wd _ o1]; exact o2) ?_
        rw [n.tow hti hai o1 hoa]
        rcases r.leaf.2 k with e | e
        · rw [e]; exact hlf (by rw [← e]; exact .step h1 o1)
        · rw [e]; exact .on ((r.path k _ h1).2 rfl)
      · by_cases e2 : x = l
        · subst e2; exact hlf h1
        · exact .on ((r.path k x h1).1 e e2)
    | leaf h1 h2 => exact .leaf ((n.lf _).2 h1) (by rw [n.nd]; exact h2)
    | @off p h1 h2 h4 _ ih =>
      refine .off ((n.inn p).2 h1) (fun hm => h2 (r.inn p hm)) (by rw [n.wd p h1]; exact h4) ?_
      rw [n.tow hti hai h1 (fun e => by rw [e] at h4; omega)]; exact ih
end
/-! what a call knows -/
structure PathL (t : Tr) (L : PT) (k : ByteArray) (seen : Bool → Prop) (path : List Ps) : Prop where
  reach : ∀ ps ∈ path, ReachN t L k seen ps.node
  asked : ∀ ps ∈ path, ps.asked = true → ps.seen % 4 = 0 ∧ ps.seen / 4 ≤ t.ws.length ∧ rk ps.seen ≤ rk (t.wd ps.node)
  next : ∀ (i : Nat) (a b : Ps), path[i]? = some a → path[i + 1]? = some b → a.asked = true → t.wd a.node = a.seen → t.kid (t.toward a.node k) = b.node
/-- a work that a call began itself -/
def ThL (t : Tr) (c : Cl) (own : Nat → Prop) (o : Nat) : Th → Prop
  | .told _ => own o ∧ (t.wk o).key = c.key ∧ ((c.kd = .ins ∧ (t.wk o).state = 1) ∨ (c.kd = .rem ∧ (t.wk o).state = 2))
  | _ => True
def NoTell (th : Th) : Prop := ∀ l, th ≠ .told l
def StpL (t : Tr) (L : PT) (c : Cl) (seen : Bool → Prop) (own : Nat → Prop) : Stp → Prop
  | .desc b .find => ∃ p, Inn t p ∧ b = t.toward p c.key ∧ ReachN t L c.key seen p
  | .desc b .way => c.path ≠ [] ∧ b = t.toward (c.up 0).node c.key ∧ ∀ ps ∈ c.path, ps.asked = false
  | .desc _ _ => True
  | .beg => True
  | .look => True
  | .down => (c.up 0).asked = true
  | .grow l => (c.up 0).asked = true ∧ (t.wd (c.up 0).node = (c.up 0).seen → t.kid (t.toward (c.up 0).node c.key) = l) ∧ LfOk t l ∧ (t.nd l).has c.key = false
  | .lose l => (c.up 0).asked = true ∧ (c.up 1).asked = true ∧ (t.wd (c.up 0).node = (c.up 0).seen → t.kid (t.toward (c.up 0).node c.key) = l) ∧ LfOk t l ∧ (t.nd l).has c.key = true
  | .mark o th fl => ThL t c own o th ∧ NoTell fl ∧ th ≠ .fail ∧ ∀ l, th = .told l → fl = .fail
  | .drop o th => ThL t c own o th ∧ t.wd (t.wk o).old = packW 3 o ∧ th ≠ .fail
  | .take o nx th => ThL t c own o th ∧ th ≠ .fail ∧ ((t.wk o).state = 1 → (t.wk o).next = some nx) ∧ ((t.wk o).state = 2 → t.wd (t.wk o).old = packW 3 o ∧ nx = t.kid (t.beside (t.wk o).old (t.wk o).key))
  | .fin o th => ThL t c own o th ∧ ((Trn t (whole L) o ∧ ((t.wk o).state = 2 → t.wd (t.wk o).old = packW 3 o)) ∨ ((t.wk o).state = 2 ∧ Doom t o ∧ NoTell th)) ∧ (th = .fail → (t.wk o).state = 2 ∧ Doom t o)
structure LC (t : Tr) (L : PT) (c : Cl) (seen : Bool → Prop) (own : Nat → Prop) (s : Stp) : Prop where
  path : PathL t L c.key seen c.path
  stp : StpL t L c seen own s
  full : c.kd = .ins → c.full = false
section
variable {t t' : Tr} {L L' : PT} {c : Cl} {seen seen' : Bool → Prop} {own own' : Nat → Prop}
theorem Kp.tow (g : Kp t t' L L') {p : Nat} (hp : Inn t p) (hx : t.wd p % 4 = 3 ∨ t.wd p % 4 = 0) (k : ByteArray) : t'.kid (t'.toward p k) = t.kid (t.toward p k) ∧ t'.kid (t'.beside p k) = t.kid (t.beside p k) := by
  obtain ⟨h1, h2⟩ := g.kids p hp hx
  unfold Tr.toward Tr.beside
  rw [g.gr.nd p hp.1, g.gr.left hp, g.gr.right hp]
  split
  · exact ⟨h1, h2⟩
  · exact ⟨h2, h1⟩
/-- what was seen of a clean word still holds, if it is the same -/
theorem Kp.wasSeen (g : Kp t t' L L') {p : Nat} (hp : Inn t p) {s : Int} (hs : s % 4 = 0) (hr : rk s ≤ rk (t.wd p)) (he : t'.wd p = s) : t.wd p = s := by
  rcases g.rank p hp with e | e
  · rw [← e]; exact he
  · rw [he] at e; omega
theorem Kp.up (g : Kp t t' L L') {p : Nat} (hp : Inn t p) : rk (t.wd p) ≤ rk (t'.wd p) := by
  rcases g.rank p hp with e | e
  · rw [e]; exact Int.le_refl _
  · omega
theorem PathL.mono (g : Kp t t' L L') {k : ByteArray} {path : List Ps} (hin : ∀ ps ∈ path, Inn t ps.node) (hn : seen (present t L k)) (h : PathL t L k seen path) : PathL t' L' k seen path := by
  refine ⟨fun ps hp => g.reach k seen hn _ (h.reach ps hp), fun ps hp ha => ?_, fun i a b ha hb hx he => ?_⟩
  · obtain ⟨h1, h2, h3⟩ := h.asked ps hp ha
    exact ⟨h1, by have := g.gr.wl; omega, by have := g.up (hin ps hp); omega⟩
  · have hm := List.mem_of_getElem? ha
    obtain ⟨h1, h2, h3⟩ := h.asked a hm hx
    have he' := g.wasSeen (hin a hm) h1 h3 he
    rw [(g.tow (hin a hm) (Or.inr (by rw [he']; exact h1)) k).1]
    exact h.next i a b ha hb hx he'
theorem PathL.seen_mono (hs : ∀ b, seen b → seen' b) {k : ByteArray} {path : List Ps} (h : PathL t L k seen path) : PathL t L k seen' path := ⟨fun ps hp => (h.reach ps hp).mono hs, h.asked, h.next⟩
theorem ThL.mono (g : Gr t t') {o : Nat} (ho : OI t o) : ∀ {th : Th}, ThL t c own o th → ThL t' c own o th
  | .told l, h => by
    unfold ThL at h ⊢
    rw [g.wk o ho.1 ho.2]; exact h
  | .look, h => h
  | .fail, h => h
theorem LC.mono (hti : TI t) (hcc : CC t c) {s : Stp} (hsi : SI t c s) (hW : t.ws.length ≤ 900000000) (g : Kp t t' L L') (hn : seen (present t L c.key)) (h : LC t L c seen own s) : LC t' L' c seen own s := by
  refine ⟨h.path.mono g hcc.path hn, ?_, h.full⟩
  have hst := h.stp
  have hp3 : ∀ {o : Nat}, OI t o → packW 3 (o : Int) % 4 = 3 := fun {o} ho => (packW_div (by omega) (by have := ho.2; omega)).2
  have hup : ∀ {n : Nat}, n < c.path.length → (c.up n).asked = true → ∀ {l : Nat}, (t.wd (c.up n).node = (c.up n).seen → t.kid (t.toward (c.up n).node c.key) = l) → (t'.wd (c.up n).node = (c.up n).seen → t'.kid (t'.toward (c.up n).node c.key) = l) := fun {n} hnl ha {l} hx he => by
    have hm := List.mem_of_getElem? (up_get (c := c) hnl)
    obtain ⟨h1, h2, h3⟩ := h.path.asked _ hm ha
    have he' := g.wasSeen (hcc.path _ hm) h1 h3 he
    rw [(g.tow (hcc.path _ hm) (Or.inr (by rw [he']; exact h1)) _).1]
    exact hx he'
  cases s with
  | desc b m =>
    cases m with
    | find =>
      obtain ⟨p, h1, h2, h3⟩ := hst
      exact ⟨p, g.gr.inn h1, by rw [h2]; unfold Tr.toward; rw [g.gr.nd p h1.1, g.gr.left h1, g.gr.right h1], g.reach _ seen hn _ h3⟩
    | way =>
      obtain ⟨h1, h2, h3⟩ := hst
      have hu := (hcc.up (n := 0) (List.length_pos_iff.2 h1)).1
      exact ⟨h1, by rw [h2]; unfold Tr.toward; rw [g.gr.nd _ hu.1, g.gr.left hu, g.gr.right hu], h3⟩
    | seek => trivial
    | left => trivial
  | beg => trivial
  | look => trivial
  | down => exact hst
  | grow l =>
    obtain ⟨h1, h2, h3, h4⟩ := hst
    exact ⟨h1, hup (List.length_pos_iff.2 hsi.2.1) h1 h2, ⟨Nat.lt_of_lt_of_le h3.1 g.gr.nl, by rw [g.gr.nd l h3.1]; exact h3.2⟩, by rw [g.gr.nd l h3.1]; exact h4⟩
  | lose l =>
    obtain ⟨h1, h0, h2, h3, h4⟩ := hst
    exact ⟨h1, h0, hup (by have := hsi.2.1; omega) h1 h2, ⟨Nat.lt_of_lt_of_le h3.1 g.gr.nl, by rw [g.gr.nd l h3.1]; exact h3.2⟩, by rw [g.gr.nd l h3.1]; exact h4⟩
  | mark o th fl => exact ⟨hst.1.mono g.gr hsi.1, hst.2⟩
  | drop o th =>
    obtain ⟨h1, h2, h9⟩ := hst
    have ho := hsi.1
    have hold := ((hti.wks o ho.1 ho.2).rem hsi.2.1).1
    refine ⟨h1.mono g.gr ho, ?_, h9⟩
    rw [g.gr.wk o ho.1 ho.2, g.mark _ hold (by rw [h2]; exact hp3 ho)]; exact h2
  | take o nx th =>
    obtain ⟨h1, h9, h2, h3⟩ := hst
    have ho := hsi.1
    refine ⟨h1.mono g.gr ho, h9, by rw [g.gr.wk o ho.1 ho.2]; exact h2, ?_⟩
    rw [g.gr.wk o ho.1 ho.2]
    intro hs2
    obtain ⟨h4, h5⟩ := h3 hs2
    have hold := ((hti.wks o ho.1 ho.2).rem hs2).1
    have h43 : t.wd (t.wk o).old % 4 = 3 := by rw [h4]; exact hp3 ho
    exact ⟨by rw [g.mark _ hold h43]; exact h4, by rw [(g.tow hold (Or.inl h43) _).2]; exact h5⟩
  | fin o th =>
    obtain ⟨h1, h2, h9⟩ := hst
    have ho := hsi.1
    refine ⟨h1.mono g.gr ho, ?_, fun e => ⟨by rw [g.gr.wk o ho.1 ho.2]; exact (h9 e).1, g.doom o ho (h9 e).1 (h9 e).2⟩⟩
    rcases h2 with ⟨h2, h3⟩ | ⟨h2, h3, h4⟩
    · refine Or.inl ⟨g.trn o ho h2, ?_⟩
      rw [g.gr.wk o ho.1 ho.2]
      intro hs2
      have hold := ((hti.wks o ho.1 ho.2).rem hs2).1
      have h43 : t.wd (t.wk o).old % 4 = 3 := by rw [h3 hs2]; exact hp3 ho
      rw [g.mark _ hold h43]; exact h3 hs2
    · exact Or.inr ⟨by rw [g.gr.wk o ho.1 ho.2]; exact h2, g.doom o ho h2 h3, h4⟩
theorem LC.seen_mono (hs : ∀ b, seen b → seen' b) {s : Stp} (h : LC t L c seen own s) : LC t L c seen' own s := by
  refine ⟨h.path.seen_mono hs, ?_, h.full⟩
  have hst := h.stp
  cases s with
  | desc b m =>
    cases m with
    | find => obtain ⟨p, h1, h2, h3⟩ := hst; exact ⟨p, h1, h2, h3.mono hs⟩
    | way => exact hst
    | seek => trivial
    | left => trivial
  | _ => exact hst
end
end Go.Proofs.Ytmhiolhgofackaa
namespace Go.Proofs.Ytmhiolhgofackaa
open Go.RowKit
set_option linter.unusedVariables false
set_option linter.unusedSimpArgs false

def Done (t : Tr) (T : PT) (o : Nat) : Prop := Trn t T o ∧ ((t.wk o).state = 2 → t.wd (t.wk o).old = packW 3 o)
/-- what is told -/
def Told (t : Tr) (L : PT) (c : Cl) (seen : Bool → Prop) (own : Nat → Prop) : Prop := c.kd ≠ .sek → c.ans.err = 0 ∧
  ((c.kd = .ins ∧ c.ans.ok = true ∧ ∃ o, own o ∧ OI t o ∧ (t.wk o).state = 1 ∧ (t.wk o).key = c.key ∧ Done t (whole L) o) ∨
   (c.kd = .rem ∧ c.ans.ok = true ∧ ∃ o, own o ∧ OI t o ∧ (t.wk o).state = 2 ∧ (t.wk o).key = c.key ∧ Done t (whole L) o) ∨
   (c.kd = .ins ∧ c.ans.ok = false ∧ seen true) ∨ (c.kd = .rem ∧ c.ans.ok = false ∧ seen false) ∨ (c.kd = .fnd ∧ seen c.ans.ok))
def OutL (t : Tr) (L : PT) (k : ByteArray) (seen : Bool → Prop) (own : Nat → Prop) (o : Out) : Prop := o.1.key = k ∧ match o.2 with
  | none => Told t L o.1 seen own
  | some s => LC t L o.1 seen own s
section
variable {t t' : Tr} {L L' : PT} {c : Cl} {k : ByteArray} {seen : Bool → Prop} {own : Nat → Prop}
theorem PathL.cut {c : Cl} (h : PathL t L k seen c.path) (n : Nat) : PathL t L k seen (c.cut n).path := by
  have hg : ∀ (i : Nat) (a : Ps), (c.cut n).path[i]? = some a → c.path[i]? = some a := fun i a ha => by
    have ha' : (c.path.take (c.path.length - n))[i]? = some a := ha
    rw [List.getElem?_take] at ha'
    split at ha'
    · exact ha'
    · cases ha'
  exact ⟨fun ps hp => h.reach ps (List.mem_of_mem_take hp), fun ps hp => h.asked ps (List.mem_of_mem_take hp), fun i a b ha hb => h.next i a b (hg i a ha) (hg _ b hb)⟩
theorem pass_get {c : Cl} {n i : Nat} {a : Ps} (h : (c.pass n).path[i]? = some a) : (i < c.path.length ∧ c.path[i]? = some a) ∨ (i = c.path.length ∧ a = ⟨n, false, 0⟩) := by
  have h' : (c.path ++ [⟨n, false, 0⟩])[i]? = some a := h
  by_cases hi : i < c.path.length
  · rw [List.getElem?_append_left hi] at h'; exact Or.inl ⟨hi, h'⟩
  · rw [List.getElem?_append_right (by omega)] at h'
    have hi2 := (List.getElem?_eq_some_iff.1 h').1
    simp at hi2
    have e : i - c.path.length = 0 := by omega
    rw [e] at h'
    simp at h'
    exact Or.inr ⟨by omega, h'.symm⟩
theorem pass_len (c : Cl) (n : Nat) : (c.pass n).path.length = c.path.length + 1 := by show (c.path ++ [_]).length = _; simp
theorem pass_upL (c : Cl) (n : Nat) : (c.pass n).up 0 = ⟨n, false, 0⟩ := by
  have h := up_get (c := c.pass n) (n := 0) (by rw [pass_len]; omega)
  rcases pass_get h with ⟨e, _⟩ | ⟨_, e⟩
  · rw [pass_len] at e; omega
  · exact e
theorem saw_upL {c : Cl} (hp : c.path ≠ []) (was : Int) : (c.saw was).up 0 = ⟨(c.up 0).node, true, was⟩ := by
  have hl := List.length_pos_iff.2 hp
  have h := up_get (c := c.saw was) (n := 0) (by rw [saw_len]; exact hl)
  have h' : (c.path.set (c.path.length - 1) ⟨(c.up 0).node, true, was⟩)[(c.saw was).path.length - 1 - 0]? = some ((c.saw was).up 0) := h
  rw [saw_len, Nat.sub_zero, List.getElem?_set, if_pos rfl, if_pos (by omega)] at h'
  exact (Option.some.inj h').symm
theorem PathL.pass {c : Cl} (h : PathL t L k seen c.path) {n : Nat} (hr : ReachN t L k seen n) (hn : c.path ≠ [] → (c.up 0).asked = true → t.wd (c.up 0).node = (c.up 0).seen → t.kid (t.toward (c.up 0).node k) = n) : PathL t L k seen (c.pass n).path := by
  refine ⟨fun ps hp => ?_, fun ps hp ha => ?_, fun i a b ha hb hx he => ?_⟩
  · rcases List.mem_append.1 hp with hp | hp
    · exact h.reach ps hp
    · simp only [List.mem_singleton] at hp; subst hp; exact hr
  · rcases List.mem_append.1 hp with hp | hp
    · exact h.asked ps hp ha
    · simp only [List.mem_singleton] at hp; subst hp; cases ha
  · rcases pass_get ha with ⟨i1, ha'⟩ | ⟨_, rfl⟩
    · rcases pass_get hb with ⟨i2, hb'⟩ | ⟨i2, rfl⟩
      · exact h.next i a b ha' hb' hx he
      · have hne : c.path ≠ [] := ne_nil_of_len (by omega)
        have e : c.path[c.path.length - 1 - 0]? = some (c.up 0) := up_get (by omega)
        have e2 : c.path.length - 1 - 0 = i := by omega
        rw [e2, ha'] at e
        have e3 := Option.some.inj e
        rw [e3] at hx he ⊢
        exact hn hne hx he
    · cases hx
theorem PathL.saw {c : Cl} (h : PathL t L k seen c.path) (hp : c.path ≠ []) (h0 : t.wd (c.up 0).node % 4 = 0) (hW : t.wd (c.up 0).node / 4 ≤ t.ws.length) : PathL t L k seen (c.saw (t.wd (c.up 0).node)).path := by
  have hl := List.length_pos_iff.2 hp
  have hu : c.path[c.path.length - 1]? = some (c.up 0) := by have := up_get (c := c) (n := 0) hl; rwa [Nat.sub_zero] at this
  have hg : ∀ (i : Nat) (a : Ps), (c.saw (t.wd (c.up 0).node)).path[i]? = some a → (i = c.path.length - 1 ∧ a = ⟨(c.up 0).node, true, t.wd (c.up 0).node⟩) ∨ (i ≠ c.path.length - 1 ∧ c.path[i]? = some a) := fun i a ha => by
    have ha' : (c.path.set (c.path.length - 1) ⟨(c.up 0).node, true, t.wd (c.up 0).node⟩)[i]? = some a := ha
    rw [List.getElem?_set] at ha'
    split at ha'
    · rename_i e
      rw [if_pos (by omega)] at ha'
      exact Or.inl ⟨e.symm, (Option.some.inj ha').symm⟩
    · rename_i e
      exact Or.inr ⟨fun e2 => e e2.symm, ha'⟩
  refine ⟨fun ps hps => ?_, fun ps hps ha => ?_, fun i a b ha hb hx he => ?_⟩
  · rcases List.mem_or_eq_of_mem_set hps with hps | rfl
    · exact h.reach ps hps
    · show ReachN t L k seen (c.up 0).node
      exact h.reach (c.up 0) (List.mem_of_getElem? hu)
  · rcases List.mem_or_eq_of_mem_set hps with hps | rfl
    · exact h.asked ps hps ha
    · exact ⟨h0, hW, Int.le_refl _⟩
  · have hbl := (List.getElem?_eq_some_iff.1 hb).1
    rw [saw_len] at hbl
    rcases hg i a ha with ⟨e, _⟩ | ⟨_, ha'⟩
    · omega
    · rcases hg _ b hb with ⟨e, rfl⟩ | ⟨_, hb'⟩
      · exact h.next i a (c.up 0) ha' (by rw [e]; exact hu) hx he
      · exact h.next i a b ha' hb' hx he
theorem OutL.look (hP : PathL t L k seen c.path) (hk : c.key = k) (hf : c.kd = .ins → c.full = false) : OutL t L k seen own (c, some .look) := ⟨hk, ⟨by rw [hk]; exact hP, trivial, hf⟩⟩
theorem leafL (hP : PathL t L c.key seen c.path) (hf : c.kd = .ins → c.full = false) (hns : c.kd ≠ .sek) {l : Nat} {m : Md} (hl : LfOk t l) (hs : seen ((t.nd l).has c.key)) (hpn : Upd c → c.path ≠ [])
    (hk : (c.up 0).asked = true → t.kid (t.toward (c.up 0).node c.key) = l) (h1 : (c.up 1).asked = true → (c.up 0).asked = true) : OutL t L c.key seen own (c.leaf t l m) := by
  unfold Cl.leaf
  cases hkd : c.kd with
  | ins =>
    dsimp only
    split
    · rename_i hh
      rw [hh] at hs
      exact ⟨rfl, fun _ => ⟨rfl, Or.inr (Or.inr (Or.inl ⟨hkd, rfl, hs⟩))⟩⟩
    · rename_i hh
      rw [if_neg (by rw [hf hkd]; simp)]
      split
      · rename_i ha
        exact ⟨rfl, ⟨hP, ⟨ha, fun _ => hk ha, hl, by simpa using hh⟩, hf⟩⟩
      · exact OutL.look hP rfl hf
  | rem =>
    dsimp only
    split
    · rename_i hh
      split
      · rename_i ha
        exact ⟨rfl, ⟨hP, ⟨h1 ha, ha, fun _ => hk (h1 ha), hl, hh⟩, hf⟩⟩
      · exact OutL.look (c := c.cut 1) (hP.cut 1) rfl hf
    · rename_i hh
      simp only [Bool.not_eq_true] at hh
      rw [hh] at hs
      exact ⟨rfl, fun _ => ⟨rfl, Or.inr (Or.inr (Or.inr (Or.inl ⟨hkd, rfl, hs⟩)))⟩⟩
  | fnd =>
    dsimp only
    split
    · rename_i hh
      rw [hh] at hs
      exact ⟨rfl, fun _ => ⟨rfl, Or.inr (Or.inr (Or.inr (Or.inr ⟨hkd, hs⟩)))⟩⟩
    · rename_i hh
      simp only [Bool.not_eq_true] at hh
      rw [hh] at hs
      exact ⟨rfl, fun _ => ⟨rfl, Or.inr (Or.inr (Or.inr (Or.inr ⟨hkd, hs⟩)))⟩⟩
  | sek => exact absurd hkd hns
theorem packW_back {x : Int} (hx : IsU x) {s : Int} (h : x % 4 = s) : packW s ((x / 4).toNat : Int) = x := by
  obtain ⟨u0, u1⟩ := hx
  unfold packW
  rw [Int.toNat_of_nonneg (by omega)]
  omega
theorem helpL (h : LI t L) (hti : TI t) (hP : PathL t L c.key seen c.path) (hf : c.kd = .ins → c.full = false) {p : Nat} (hp : Inn t p) (h0 : t.wd p % 4 ≠ 0) : OutL t L c.key seen own (c.help t (t.wd p) .look) := by
  have hx := hti.word p hp
  have hu : IsU (t.wd p) := isU_at hti.isu _
  unfold Cl.help
  split
  · rename_i e
    obtain ⟨h1, h2⟩ := hti.live _ e
    obtain ⟨g1, g2⟩ := hx.2 (by show 1 ≤ t.wd p / 4; omega)
    have hwk := hti.wks _ h1 h2
    split
    · rename_i e1
      have hs1 := g1 e1
      refine ⟨rfl, ⟨hP, ⟨trivial, by simp, fun _ => ?_, fun e2 => ?_⟩, hf⟩⟩
      · rcases hwk.kind with ⟨_, q, hq⟩ | ⟨e3, _⟩
        · rw [hq]; rfl
        · have e4 : (t.wk (t.wd p / 4).toNat).state = 1 := hs1
          rw [e4] at e3; cases e3
      · have e4 : (t.wk (t.wd p / 4).toNat).state = 1 := hs1
        rw [e4] at e2; cases e2
    · split
      · exact ⟨rfl, ⟨hP, ⟨trivial, (fun l e => by cases e), by simp, fun l e => by cases e⟩, hf⟩⟩
      · rename_i e1 e2
        have e3 : t.wd p % 4 = 3 := by omega
        obtain ⟨k1, k2, k3⟩ := h.goes p hp e3
        refine ⟨rfl, ⟨hP, ⟨trivial, ?_, by simp⟩, hf⟩⟩
        rw [k3]
        exact (packW_back hu e3).symm
  · exact OutL.look hP rfl hf
theorem metL (h : LI t L) (hti : TI t) (hc : CC t c) (hP : PathL t L c.key seen c.path) (hf : c.kd = .ins → c.full = false) (hp : c.path ≠ []) : OutL t L c.key seen own (c.met t (t.ms.at (t.word (c.up 0).node))) := by
  have u1 := (hc.up (n := 0) (List.length_pos_iff.2 hp)).1
  have hwd : t.ms.at (t.word (c.up 0).node) = t.wd (c.up 0).node := rfl
  rw [hwd]
  have hx := (hti.word _ u1).1
  unfold Cl.met
  split
  · rename_i e
    exact ⟨rfl, ⟨hP.saw hp e hx, by show ((c.saw _).up 0).asked = true; rw [saw_upL hp], hf⟩⟩
  · split
    · rename_i e0 e
      exact helpL (c := c.cut 1) h hti (hP.cut 1) hf u1 (by omega)
    · rename_i e0 e
      exact helpL h hti hP hf u1 e0
theorem descL (h : LI t L) (hti : TI t) (hc : CC t c) (hn : seen (present t L c.key)) {b : Br} {m : Md} (hsi : SI t c (.desc b m)) (hl : LC t L c seen own (.desc b m)) (hns : c.kd ≠ .sek) : OutL t L c.key seen own (c.desc t (t.kid b) m) := by
  obtain ⟨hP, hst, hf⟩ := hl
  have hmd := hsi.1
  unfold Cl.desc
  cases m with
  | seek => exfalso; revert hmd; cases hk : c.kd <;> simp [MdOk]; exact absurd hk hns
  | left => exfalso; revert hmd; cases hk : c.kd <;> simp [MdOk]; exact absurd hk hns
  | find =>
    obtain ⟨p, h1, h2, h3⟩ := hst
    have hr := h3.kid h1
    rw [← h2] at hr
    have hkd : c.kd = .fnd := by revert hmd; cases hk : c.kd <;> simp [MdOk]
    split
    · rename_i hi
      have hlt : t.kid b < t.ns.length := by
        rw [h2]
        rcases toward_or t p c.key with e | e
        · rw [e]; exact (hti.kidl p h1).1
        · rw [e]; exact (hti.kidr p h1).1
      exact ⟨rfl, ⟨hP, ⟨t.kid b, ⟨hlt, hi⟩, rfl, hr⟩, hf⟩⟩
    · rename_i hi
      simp only [Bool.not_eq_true] at hi
      have hlt : t.kid b < t.ns.length := by
        rw [h2]
        rcases toward_or t p c.key with e | e
        · rw [e]; exact (hti.kidl p h1).1
        · rw [e]; exact (hti.kidr p h1).1
      have hd := hr.found h hti hn hi
      have hpe : c.path = [] ∨ c.path ≠ [] := by cases c.path <;> simp
      unfold Cl.leaf
      rw [hkd]
      dsimp only
      split
      · rename_i hh
        rw [hh] at hd
        exact ⟨rfl, fun _ => ⟨rfl, Or.inr (Or.inr (Or.inr (Or.inr ⟨hkd, hd⟩)))⟩⟩
      · rename_i hh
        simp only [Bool.not_eq_true] at hh
        rw [hh] at hd
        exact ⟨rfl, fun _ => ⟨rfl, Or.inr (Or.inr (Or.inr (Or.inr ⟨hkd, hd⟩)))⟩⟩
  | way =>
    obtain ⟨h1, h2, h3⟩ := hst
    have hlp := List.length_pos_iff.2 h1
    have u1 := (hc.up (n := 0) hlp).1
    have hum := List.mem_of_getElem? (up_get (c := c) (n := 0) hlp)
    have ha0 := h3 _ hum
    have hr := (hP.reach _ hum).kid u1
    rw [← h2] at hr
    have hlt : t.kid b < t.ns.length := by
      rw [h2]
      rcases toward_or t (c.up 0).node c.key with e | e
      · rw [e]; exact (hti.kidl _ u1).1
      · rw [e]; exact (hti.kidr _ u1).1
    split
    · rename_i hi
      refine ⟨rfl, ⟨hP.pass hr (fun _ e => by rw [ha0] at e; cases e), ⟨ne_nil_of_len (by show 1 ≤ (c.pass _).path.length; rw [pass_len]; omega), ?_, fun ps hps => ?_⟩, hf⟩⟩
      · show t.toward (t.kid b) c.key = t.toward ((c.pass (t.kid b)).up 0).node c.key
        rw [pass_upL]
      · rcases List.mem_append.1 hps with hps | hps
        · exact h3 ps hps
        · simp only [List.mem_singleton] at hps; subst hps; rfl
    · rename_i hi
      simp only [Bool.not_eq_true] at hi
      refine leafL hP hf hns ⟨hlt, hi⟩ (hr.found h hti hn hi) (fun _ => h1) (fun e => by rw [ha0] at e; cases e) (fun e => ?_)
      by_cases hl2 : 1 < c.path.length
      · have := h3 _ (List.mem_of_getElem? (up_get (c := c) (n := 1) hl2))
        rw [this] at e; cases e
      · have hl1 : c.path.length = 1 := by omega
        have : c.up 1 = c.up 0 := by unfold Cl.up; rw [hl1]
        rw [this] at e; exact e
end
end Go.Proofs.Ytmhiolhgofackaa
namespace Go.Proofs.Ytmhiolhgofackaa
open Go.RowKit
set_option linter.unusedVariables false
set_option linter.unusedSimpArgs false

inductive Eff (t t' : Tr) (L L' : PT) : Prop
  | same (h1 : ∀ k, cont t' L' k = cont t L k) (h2 : ∀ j, OI t' j → Done t' (whole L') j → OI t j ∧ Done t (whole L) j) : Eff t t' L L'
  | ins (i : Nat) (v : Int) (oi : OI t i) (st : (t.wk i).state = 1) (act : WkAct t i) (was : ¬ Done t (whole L) i) (now : Done t' (whole L') i) (h0 : cont t L (t.wk i).key = none)
      (h1 : ∀ k, cont t' L' k = if k = (t.wk i).key then some v else cont t L k) (h2 : ∀ j, OI t' j → Done t' (whole L') j → j ≠ i → OI t j ∧ Done t (whole L) j) : Eff t t' L L'
  | del (i : Nat) (oi : OI t i) (st : (t.wk i).state = 2) (act : WkAct t i) (was : ¬ Done t (whole L) i) (now : Done t' (whole L') i) (h0 : cont t L (t.wk i).key ≠ none)
      (h1 : ∀ k, cont t' L' k = if k = (t.wk i).key then none else cont t L k) (h2 : ∀ j, OI t' j → Done t' (whole L') j → j ≠ i → OI t j ∧ Done t (whole L) j) : Eff t t' L L'
structure Go (t t' : Tr) (L L' : PT) : Prop where
  li : LI t' L'
  kp : Kp t t' L L'
  eff : Eff t t' L L'
section
variable {t t' : Tr} {L L' : PT} {c : Cl} {seen : Bool → Prop} {own own' : Nat → Prop}
theorem cont_nd (h : LI t L) (hnd : ∀ p, p < t.ns.length → t'.nd p = t.nd p) (k : ByteArray) : cont t' L k = cont t L k := by
  have hlt : ∀ p, p ∈ L.inners ∨ p ∈ L.leaves → p < t.ns.length := fun p hp => kt_lt h.kt p (by
    show p ∈ (2 :: (L.inners ++ [])) ++ (L.leaves ++ [1])
    rcases hp with hp | hp
    · simp [hp]
    · simp [hp])
  unfold cont
  have e : look t' k L = look t k L := look_nd k (fun p hp => hnd p (hlt p (Or.inl hp)))
  rw [e, hnd _ (hlt _ (Or.inr (look_leaf t k L)))]
theorem go_same (h : LI t L) (hn : t'.ns = t.ns) (hw : t'.ws = t.ws) (ha : ∀ x, t'.ms.at x = t.ms.at x) : Go t t' L L := by
  have hnd : ∀ p, t'.nd p = t.nd p := fun p => by unfold Tr.nd; rw [hn]
  refine ⟨h.same hn hw ha, Kp.same hn hw ha, .same (fun k => cont_nd h (fun p _ => hnd p) k) (fun j hj hd => ?_)⟩
  have hj' : OI t j := by unfold OI at hj ⊢; rw [hw] at hj; exact hj
  have g : Kp t' t L L := Kp.same hn.symm hw.symm (fun x => (ha x).symm)
  refine ⟨hj', g.trn j hj hd.1, fun hs => ?_⟩
  have hwk : t'.wk j = t.wk j := by unfold Tr.wk; rw [hw]
  have hwd : ∀ p, t'.wd p = t.wd p := fun p => by unfold Tr.wd Tr.word; rw [ha, hnd]
  have := hd.2 (by rw [hwk]; exact hs)
  rw [hwk, hwd] at this
  exact this
/-- what others are told, or know, stays told -/
theorem Told.mono (hti : TI t) (hW : t.ws.length ≤ 900000000) (g : Kp t t' L L') (h : Told t L c seen own) : Told t' L' c seen own := by
  intro hns
  obtain ⟨h1, h2⟩ := h hns
  have hd : ∀ o, OI t o → Done t (whole L) o → Done t' (whole L') o := fun o ho hx => ⟨g.trn o ho hx.1, fun hs => by
    rw [g.gr.wk o ho.1 ho.2] at hs ⊢
    have hold := ((hti.wks o ho.1 ho.2).rem hs).1
    have h3 := hx.2 hs
    rw [g.mark _ hold (by rw [h3]; exact (packW_div (by omega) (by have := ho.2; omega)).2)]; exact h3⟩
  have hoi : ∀ o, OI t o → OI t' o := fun o ho => ⟨ho.1, Nat.le_trans ho.2 g.gr.wl⟩
  refine ⟨h1, h2.imp (fun ⟨a, b, o, k1, k2, k3, k4, k5⟩ => ⟨a, b, o, k1, hoi o k2, by rw [g.gr.wk o k2.1 k2.2]; exact k3, by rw [g.gr.wk o k2.1 k2.2]; exact k4, hd o k2 k5⟩) (fun h => h.imp (fun ⟨a, b, o, k1, k2, k3, k4, k5⟩ => ⟨a, b, o, k1, hoi o k2, by rw [g.gr.wk o k2.1 k2.2]; exact k3, by rw [g.gr.wk o k2.1 k2.2]; exact k4, hd o k2 k5⟩) id)⟩
theorem OutL.mono (hti : TI t) (hW : t.ws.length ≤ 900000000) (g : Kp t t' L L') {k : ByteArray} {kd : Kd} {n : Nat} {o : Out} (hn : seen (present t L k)) (hI : OutI t kd n o) (h : OutL t L k seen own o) : OutL t' L' k seen own o := by
  obtain ⟨h1, h2⟩ := h
  refine ⟨h1, ?_⟩
  cases ho : o.2 with
  | none =>
    rw [ho] at h2
    exact Told.mono hti hW g h2
  | some s =>
    rw [ho] at h2
    exact LC.mono hti hI.2.1 (hI.2.2.1 s ho) hW g (by rw [h1]; exact hn) h2
theorem ThL.owns (hs : ∀ x, own x → own' x) {o : Nat} : ∀ {th : Th}, ThL t c own o th → ThL t c own' o th
  | .told l, h => ⟨hs _ h.1, h.2⟩
  | .look, h => h
  | .fail, h => h
theorem LC.owns (hs : ∀ x, own x → own' x) {s : Stp} (h : LC t L c seen own s) : LC t L c seen own' s := by
  refine ⟨h.path, ?_, h.full⟩
  have hst := h.stp
  cases s with
  | desc b m => cases m <;> exact hst
  | mark o th fl => exact ⟨hst.1.owns hs, hst.2⟩
  | drop o th => exact ⟨hst.1.owns hs, hst.2⟩
  | take o nx th => exact ⟨hst.1.owns hs, hst.2⟩
  | fin o th => exact ⟨hst.1.owns hs, hst.2⟩
  | _ => exact hst
theorem Told.owns (hs : ∀ x, own x → own' x) (h : Told t L c seen own) : Told t L c seen own' := by
  intro hns
  obtain ⟨h1, h2⟩ := h hns
  exact ⟨h1, h2.imp (fun ⟨a, b, o, k1, k2⟩ => ⟨a, b, o, hs _ k1, k2⟩) (fun h => h.imp (fun ⟨a, b, o, k1, k2⟩ => ⟨a, b, o, hs _ k1, k2⟩) id)⟩
theorem OutL.owns (hs : ∀ x, own x → own' x) {k : ByteArray} {o : Out} (h : OutL t L k seen own o) : OutL t L k seen own' o := by
  obtain ⟨h1, h2⟩ := h
  refine ⟨h1, ?_⟩
  cases ho : o.2 with
  | none => rw [ho] at h2; exact Told.owns hs h2
  | some s => rw [ho] at h2; exact LC.owns hs h2
/-- works that a step has begun are its call's -/
def ownS (own : Nat → Prop) (t t' : Tr) : Nat → Prop := fun x => own x ∨ (t.ws.length < x ∧ x ≤ t'.ws.length)
def StepL (t : Tr) (L : PT) (c : Cl) (seen : Bool → Prop) (own : Nat → Prop) (s : Stp) : Prop :=
  ∃ L', Go t (stepP t c s).1 L L' ∧ OutL (stepP t c s).1 L' c.key seen (ownS own t (stepP t c s).1) (stepP t c s).2
theorem stepL_same (h : LI t L) (hti : TI t) (hb : Bd t c) {s : Stp} (hn : seen (present t L c.key)) (e1 : (stepP t c s).1.ns = t.ns) (e2 : (stepP t c s).1.ws = t.ws) (e3 : ∀ x, (stepP t c s).1.ms.at x = t.ms.at x) {n : Nat} (hI : OutI t c.kd n (stepP t c s).2) (ho : OutL t L c.key seen own (stepP t c s).2) : StepL t L c seen own s := by
  have hg := go_same (L := L) h e1 e2 e3
  exact ⟨L, hg, (OutL.mono hti hb.ws hg.kp hn hI ho).owns (fun x hx => Or.inl hx)⟩
theorem stepL_desc (h : LI t L) (hti : TI t) (hc : CC t c) (hb : Bd t c) (hn : seen (present t L c.key)) (hns : c.kd ≠ .sek) {b : Br} {m : Md} (hsi : SI t c (.desc b m)) (hl : LC t L c seen own (.desc b m)) : StepL t L c seen own (.desc b m) := by
  obtain ⟨d1, d2⟩ := desc_si hti hc (by have := hb.ns; omega) (by have := hb.path; omega) hsi
  refine stepL_same h hti hb hn rfl rfl (fun x => MS.at_ask _ _ _) (n := c.path.length + 1) ?_ ?_
  · show OutI t c.kd _ (c.desc (t.ask b.cell) (t.kid b) m)
    rw [desc_ask]; exact d2
  · show OutL t L c.key seen own (c.desc (t.ask b.cell) (t.kid b) m)
    rw [desc_ask]; exact descL h hti hc hn hsi hl hns
theorem stepL_beg (h : LI t L) (hti : TI t) (hc : CC t c) (hb : Bd t c) (hn : seen (present t L c.key)) (hsi : SI t c .beg) : StepL t L c seen own .beg := by
  have hkd : c.kd = .ins := hsi
  obtain ⟨c1, c2⟩ := beg_si hti hc hsi
  obtain ⟨d1, d2⟩ := desc_si hti c1 (by have := hb.ns; omega) (by show 1 ≤ _; omega) c2
  have hroom := room_of hti hb.ns
  refine stepL_same h hti hb hn rfl rfl (fun x => MS.at_ask _ _ _) (n := 2) d2 ?_
  refine descL (c := { c with full := !t.room, path := [⟨2, false, 0⟩] }) h hti c1 hn c2 ⟨⟨fun ps hps => ?_, fun ps hps ha => ?_, fun i a b ha hb => ?_⟩, ⟨by simp, rfl, fun ps hps => ?_⟩, fun _ => by show (!t.room) = false; rw [hroom]; rfl⟩ (by show c.kd ≠ .sek; rw [hkd]; simp)
  · have hps' : ps ∈ [(⟨2, false, 0⟩ : Ps)] := hps
    simp only [List.mem_singleton] at hps'
    subst hps'; exact .on .root
  · have hps' : ps ∈ [(⟨2, false, 0⟩ : Ps)] := hps
    simp only [List.mem_singleton] at hps'
    subst hps'; cases ha
  · have hb' : [(⟨2, false, 0⟩ : Ps)][i + 1]? = some b := hb
    simp at hb'
  · have hps' : ps ∈ [(⟨2, false, 0⟩ : Ps)] := hps
    simp only [List.mem_singleton] at hps'
    subst hps'; rfl
theorem stepL_look (h : LI t L) (hti : TI t) (hc : CC t c) (hb : Bd t c) (hn : seen (present t L c.key)) (hsi : SI t c .look) (hl : LC t L c seen own .look) : StepL t L c seen own .look :=
  stepL_same h hti hb hn rfl rfl (fun x => MS.at_ask _ _ _) (n := c.path.length) (met_si hti hc hsi.1 hsi.2) (metL h hti hc hl.path hl.full hsi.2)
theorem stepL_down (h : LI t L) (hti : TI t) (hc : CC t c) (hb : Bd t c) (hn : seen (present t L c.key)) (hsi : SI t c .down) (hl : LC t L c seen own .down) : StepL t L c seen own .down := by
  obtain ⟨_, _, k3, k4, _⟩ := stepI_down hti hc hb hsi
  have hI : OutI t c.kd (c.path.length + 2) (stepP t c .down).2 := OutI.mono (t' := t) (hti.ask _) (Gr.of rfl rfl) (Nat.le_refl _) k4
  obtain ⟨hu, hp⟩ := hsi
  have hlp := List.length_pos_iff.2 hp
  have u1 := (hc.up (n := 0) hlp).1
  have hum := List.mem_of_getElem? (up_get (c := c) (n := 0) hlp)
  have hr := (hl.path.reach _ hum).kid u1
  have hlt : t.kid (t.toward (c.up 0).node c.key) < t.ns.length := by
    rcases toward_or t (c.up 0).node c.key with e | e
    · rw [e]; exact (hti.kidl _ u1).1
    · rw [e]; exact (hti.kidr _ u1).1
  have ha0 : (c.up 0).asked = true := hl.stp
  refine stepL_same h hti hb hn rfl rfl (fun x => MS.at_ask _ _ _) hI ?_
  show OutL t L c.key seen own (if (t.nd (t.kid (t.toward (c.up 0).node c.key))).inner then (c.pass (t.kid (t.toward (c.up 0).node c.key)), some .look) else c.leaf t (t.kid (t.toward (c.up 0).node c.key)) .way)
  split
  · exact OutL.look (c := c.pass _) (hl.path.pass hr (fun _ _ _ => rfl)) rfl hl.full
  · rename_i hi
    simp only [Bool.not_eq_true] at hi
    exact leafL hl.path hl.full (by rcases hu with e | e <;> rw [e] <;> simp) ⟨hlt, hi⟩ (hr.found h hti hn hi) (fun _ => hp) (fun _ => rfl) (fun _ => ha0)
theorem stepL_drop (h : LI t L) (hti : TI t) (hc : CC t c) (hb : Bd t c) (hn : seen (present t L c.key)) {o : Nat} {th : Th} (hsi : SI t c (.drop o th)) (hl : LC t L c seen own (.drop o th)) : StepL t L c seen own (.drop o th) := by
  obtain ⟨_, _, k3, k4, _⟩ := stepI_drop hti hc hb hsi
  have hI : OutI t c.kd (c.path.length + 2) (stepP t c (.drop o th)).2 := OutI.mono (t' := t) (hti.ask _) (Gr.of rfl rfl) (Nat.le_refl _) k4
  obtain ⟨h1, h2, h9⟩ := hl.stp
  refine stepL_same h hti hb hn rfl rfl (fun x => MS.at_ask _ _ _) hI ⟨rfl, hl.path, ⟨h1, h9, fun e => ?_, fun _ => ⟨h2, rfl⟩⟩, hl.full⟩
  have := hsi.2.1
  rw [e] at this; cases this
theorem casB_no {m : MS} {a o : Int} (hh : m.has a = true) (h : m.casB a o = false) : m.at a ≠ o := fun e => by rw [casB_of hh e] at h; cases h
theorem casB_yes {m : MS} {a o : Int} (h : m.casB a o = true) : m.at a = o := by
  unfold MS.casB at h
  rw [Bool.and_eq_true] at h
  exact of_decide_eq_true h.2
theorem word_has (hti : TI t) {p : Nat} (hp : Inn t p) : t.ms.has (t.word p) = true := by
  have h1 := (hti.inn p hp).1
  have h2 := hp.1
  unfold MS.has
  apply decide_eq_true
  rw [hti.wordE hp, hti.len]
  omega
theorem cas_same {m : MS} {a o v : Int} (h : m.casB a o = false) (x : Int) : (m.cas a o v).at x = m.at x := by rw [MS.at_cas, if_neg (fun e => by rw [h] at e; cases e.2)]
/-- a word that is turned -/
theorem wc_cas (hti : TI t) {p0 : Nat} (hp : Inn t p0) {v v' : Int} (hc : t.ms.casB (t.word p0) v = true) (hr : rk v < rk v') : Wc t (t.cas (t.word p0) v v') p0 ∧ (t.cas (t.word p0) v v').wd p0 = v' := by
  have e0 : (t.cas (t.word p0) v v').wd p0 = v' := by
    show (t.ms.cas (t.word p0) v v').at (t.word p0) = v'
    rw [MS.at_cas, if_pos ⟨rfl, hc⟩]
  have hv : t.wd p0 = v := casB_yes hc
  refine ⟨⟨Gr.of rfl rfl, fun p hq => ⟨kid_at (m := t.ms.cas (t.word p0) v v') (cas_off (hti.left_word hq hp)), kid_at (m := t.ms.cas (t.word p0) v v') (cas_off (hti.right_word hq hp))⟩, fun p hq hne => ?_, ?_⟩, e0⟩
  · show (t.ms.cas (t.word p0) v v').at (t.word p) = t.ms.at (t.word p)
    exact cas_off (fun e => hne (hti.word_word hq hp e))
  · rw [e0, hv]; exact hr
theorem go_word {p0 : Nat} (h : LI t L) (hti : TI t) (hW : t.ws.length ≤ 900000000) (w : Wc t t' p0) (n : Wn t t' (whole L)) (hp0 : p0 ∈ (whole L).inners) (h3 : t.wd p0 % 4 ≠ 3)
    (hm : ∀ i, OI t i → (t.wk i).state = 2 → (t.wk i).old = p0 → t'.wd p0 = packW 3 i → t.wd p0 = (t.wk i).seen)
    (hact : ∀ i, OI t i → (t.wk i).at_ = p0 → WkAct t i → ((t.wk i).state = 1 → Trn t (whole L) i) ∧ ((t.wk i).state = 2 → (t.wd (t.wk i).old = packW 3 i ∧ Trn t (whole L) i) ∨ (t.wd (t.wk i).old ≠ packW 3 i ∧ rk (t.wk i).seen < rk (t.wd (t.wk i).old))))
    (hf : t'.wd p0 % 4 = 1 ∨ t'.wd p0 % 4 = 2 → 1 ≤ t'.wd p0 / 4 ∧ (t'.wk (t'.wd p0 / 4).toNat).at_ = p0 ∧ (t'.wk (t'.wd p0 / 4).toNat).state = t'.wd p0 % 4)
    (hg : t'.wd p0 % 4 = 3 → 1 ≤ t'.wd p0 / 4 ∧ (t'.wk (t'.wd p0 / 4).toNat).state = 2 ∧ (t'.wk (t'.wd p0 / 4).toNat).old = p0)
    (hnew : ∀ p, Inn t' p → Inn t p ∨ (Fresh t' p ∧ t'.wd p = 0))
    (hw : ∀ i, OI t' i → OI t i ∨ ((((t'.wk i).state = 1 → InsOk t' (whole L) i) ∧ ((t'.wk i).state = 2 → DelOk t' (whole L) i)) ∧ ¬ Trn t' (whole L) i)) : Go t t' L L := by
  refine ⟨h.wc hti hW w n hp0 h3 hm hact hf hg hnew (fun i hi => (hw i hi).imp id (fun e => e.1)), w.kp h hti hp0 h3 hm, .same (fun k => cont_nd h w.gr.nd k) (fun j hj hd => ?_)⟩
  rcases hw j hj with hj' | e
  · have hwk := hti.wks j hj'.1 hj'.2
    have e1 := w.gr.wk j hj'.1 hj'.2
    have htr : Trn t (whole L) j := by
      have := hd.1
      unfold Trn Tr.cell0 at this ⊢
      rw [e1, w.toward hwk.at_] at this
      exact this
    refine ⟨hj', htr, fun hs => ?_⟩
    have h4 := hd.2 (by rw [e1]; exact hs)
    rw [e1] at h4
    have hold := (hwk.rem hs).1
    by_cases e0 : (t.wk j).old = p0
    · rw [e0] at h4
      have hsn := hm j hj' hs e0 h4
      obtain ⟨_, ⟨c1, _, _⟩, _, g4⟩ := h.wk2 j hj' hs
      rw [e0] at g4
      have hp3 : packW 3 (j : Int) % 4 = 3 := (packW_div (by omega) (by have := hj'.2; omega)).2
      rcases g4 with ⟨_, g⟩ | ⟨g, _⟩ | ⟨_, g⟩
      · exact absurd (by rw [g, e0]) htr.1
      · rw [hsn] at g; rw [g] at c1; omega
      · rw [hsn] at g; omega
    · rw [w.off _ hold e0] at h4; exact h4
  · exact absurd hd.1 e.2
end
end Go.Proofs.Ytmhiolhgofackaa
namespace Go.Proofs.Ytmhiolhgofackaa
open Go.RowKit
set_option linter.unusedVariables false
set_option linter.unusedSimpArgs false

section
variable {t t' : Tr} {L L' : PT} {c : Cl} {seen : Bool → Prop} {own : Nat → Prop}
theorem outI_back {kd : Kd} {n : Nat} {o : Out} (hti : TI t') (hn : t'.ns = t.ns) (hw : t'.ws = t.ws) (h : OutI t' kd n o) : OutI t kd n o := OutI.mono (t' := t) hti (Gr.of hn.symm hw.symm) (Nat.le_refl _) h
/-- a node that is clean stands in the tree, if it isn't a new one -/
theorem LI.clean_in (h : LI t L) {p : Nat} (hp : Inn t p) (h0 : t.wd p % 4 = 0) (hf : ¬ Fresh t p) : p ∈ (whole L).inners := by
  rcases h.sit p hp with e | e | e
  · exact e
  · omega
  · exact absurd e hf
theorem LI.old_fresh (h : LI t L) {o : Nat} (ho : OI t o) : ¬ Fresh t (t.wk o).old := by
  rintro ⟨i, h1, h2, h3, h4, h5⟩
  obtain ⟨_, q, v, hq, hr⟩ := h.wk1 i h1 h2
  rw [h3] at hq
  simp only [Option.some.injEq] at hq
  rcases hr with hr | hr
  · exact hr.1 h5
  · exact (hr.2.2.2.2.olds o ho).1 hq
theorem stepL_mark (h : LI t L) (hti : TI t) (hc : CC t c) (hb : Bd t c) (hn : seen (present t L c.key)) {o : Nat} {th fl : Th} (hsi : SI t c (.mark o th fl)) (hl : LC t L c seen own (.mark o th fl)) : StepL t L c seen own (.mark o th fl) := by
  obtain ⟨_, k2, _, k4, _⟩ := stepI_mark hti hc hb hsi
  obtain ⟨ho, hs2, _, _⟩ := hsi
  obtain ⟨hth, hfl, h9, _⟩ := hl.stp
  have hwk := hti.wks o ho.1 ho.2
  obtain ⟨hoi, ho2⟩ := hwk.rem hs2
  obtain ⟨_, ⟨c1, c2, c3⟩, _, g4⟩ := h.wk2 o ho hs2
  have hW := hb.ws
  have hp3 := packW_div (s := 3) (i := o) (by omega) (by have := ho.2; omega)
  cases hcb : t.ms.casB (t.word (t.wk o).old) (t.wk o).seen with
  | false =>
    have hI : OutI t c.kd (c.path.length + 2) (stepP t c (.mark o th fl)).2 := outI_back k2 rfl rfl k4
    refine stepL_same h hti hb hn rfl rfl (fun x => cas_same hcb x) hI ?_
    show OutL t L c.key seen own (c, some (if t.ms.casB (t.word (t.wk o).old) (t.wk o).seen || t.ms.at (t.word (t.wk o).old) == packW 3 o then .drop o th else .fin o fl))
    rw [hcb, Bool.false_or]
    have hno : t.wd (t.wk o).old ≠ (t.wk o).seen := casB_no (word_has hti hoi) hcb
    by_cases e : t.wd (t.wk o).old = packW 3 o
    · rw [if_pos (by rw [beq_iff_eq]; exact e)]
      exact ⟨rfl, hl.path, ⟨hth, e, h9⟩, hl.full⟩
    · rw [if_neg (by rw [beq_iff_eq]; exact e)]
      refine ⟨rfl, hl.path, ⟨?_, Or.inr ⟨hs2, ⟨e, rk_seen c1 c3 hno⟩, hfl⟩, fun _ => ⟨hs2, ⟨e, rk_seen c1 c3 hno⟩⟩⟩, hl.full⟩
      cases fl with
      | told l => exact absurd rfl (hfl l)
      | look => trivial
      | fail => trivial
  | true =>
    have hv : t.wd (t.wk o).old = (t.wk o).seen := casB_yes hcb
    have hpT : (t.wk o).old ∈ (whole L).inners := h.clean_in hoi (by rw [hv]; exact c1) (h.old_fresh ho)
    obtain ⟨w, e0⟩ := wc_cas hti hoi (v' := packW 3 o) hcb (by unfold rk; rw [c1, hp3.1, hp3.2]; simp; omega)
    have hg := go_word h hti hW w ⟨fun j hj => Or.inl hj, fun j hj => Or.inl hj⟩ hpT (by rw [hv]; omega)
      (fun i hi _ _ e => by
        rw [e0] at e
        have h1 := (packW_div (s := 3) (i := i) (by omega) (by have := hi.2; omega)).1
        rw [← e, hp3.1] at h1
        have : o = i := by omega
        rw [← this]; exact hv)
      (fun i hi ha hact => by
        have := (wd_flag hti hW hi hact).1
        rw [ha, hv] at this
        have hk := (hti.wks i hi.1 hi.2).kind
        rcases hk with ⟨hk, _⟩ | ⟨hk, _⟩ <;> omega)
      (fun e => by rw [e0, hp3.2] at e; omega)
      (fun _ => by
        rw [e0, hp3.1]
        have e : ((o : Int)).toNat = o := by omega
        rw [e]
        exact ⟨by have := ho.1; omega, hs2, rfl⟩)
      (fun p hp => Or.inl hp) (fun i hi => Or.inl hi)
    refine ⟨L, hg, OutL.owns (fun x hx => Or.inl hx) ?_⟩
    show OutL _ L c.key seen own (c, some (if t.ms.casB (t.word (t.wk o).old) (t.wk o).seen || t.ms.at (t.word (t.wk o).old) == packW 3 o then .drop o th else .fin o fl))
    rw [hcb, Bool.true_or, if_pos rfl]
    exact ⟨rfl, hl.path.mono hg.kp hc.path hn, ⟨hth.mono hg.kp.gr ho, e0, h9⟩, hl.full⟩
theorem kid_no (hti : TI t) {a : Nat} (ha : Inn t a) (k : ByteArray) {old : Nat} (hc : t.ms.casB (t.toward a k).cell (u64 (old - (t.toward a k).first)) = false) : t.kid (t.toward a k) ≠ old := fun e => by
  have h1 := (hti.inn a ha).1
  have h2 := ha.1
  have hh : t.ms.has (t.toward a k).cell = true := by
    unfold MS.has
    apply decide_eq_true
    rcases toward_or t a k with e2 | e2 <;> rw [e2]
    · rw [hti.leftE ha, hti.len]; dsimp only; omega
    · rw [hti.rightE ha, hti.len]; dsimp only; omega
  rw [kid_cas e (isU_at hti.isu _) hh] at hc
  cases hc
theorem done_back (h : LI t L) (hti : TI t) (hW : t.ws.length ≤ 900000000) {nx i : Nat} (hi : OI t i) (hact : WkAct t i) (n : Tn t t' (t.toward (t.wk i).at_ (t.wk i).key) nx) {T' : PT} {j : Nat} (hj : OI t' j) (hji : j ≠ i) (hd : Done t' T' j) : OI t j ∧ Done t (whole L) j := by
  rw [n.oi] at hj
  have hai := (hti.wks i hi.1 hi.2).at_
  have cell : WkAct t j → t'.cell0 (t.wk j) = t.cell0 (t.wk j) := fun aj => by
    have haj := (hti.wks j hj.1 hj.2).at_
    unfold Tr.cell0
    rw [n.toward]
    exact n.off _ haj _ (toward_or t _ _) (tow_ne hti haj hai _ _ (fun e => hji (act_one hti hW hj hi aj hact e)))
  obtain ⟨hd1, hd2⟩ := hd
  unfold Trn at hd1
  rw [n.wk] at hd1
  rw [n.wk] at hd2
  refine ⟨hj, ?_⟩
  rcases (hti.wks j hj.1 hj.2).kind with ⟨hs, _⟩ | ⟨hs, _⟩
  · obtain ⟨_, q, v, _, hr⟩ := h.wk1 j hj hs
    rcases hr with hr | ⟨g1, g2, _⟩
    · exact ⟨hr, fun e => by rw [hs] at e; cases e⟩
    · exact absurd (by rw [cell g1]; exact g2) hd1.1
  · have hold := ((hti.wks j hj.1 hj.2).rem hs).1
    obtain ⟨_, _, _, hr⟩ := h.wk2 j hj hs
    rcases hr with ⟨g1, g2⟩ | ⟨g1, g2⟩ | ⟨g1, _⟩
    · exact absurd (by rw [cell g1]; exact g2) hd1.1
    · exact ⟨g2, fun _ => g1⟩
    · have := hd2 hs
      rw [n.wd _ hold] at this
      exact absurd this g1
theorem stepL_take (h : LI t L) (hti : TI t) (hc : CC t c) (hb : Bd t c) (hn : seen (present t L c.key)) {o nx : Nat} {th : Th} (hsi : SI t c (.take o nx th)) (hl : LC t L c seen own (.take o nx th)) : StepL t L c seen own (.take o nx th) := by
  obtain ⟨_, k2, _, k4, _⟩ := stepI_take hti hc hb hsi
  obtain ⟨ho, hold, hnx, _⟩ := hsi
  obtain ⟨hth, h9, hl1, hl2⟩ := hl.stp
  have hwk := hti.wks o ho.1 ho.2
  have hW := hb.ws
  have hns := hb.ns
  cases hcb : t.ms.casB (t.toward (t.wk o).at_ (t.wk o).key).cell (u64 ((t.wk o).old - (t.toward (t.wk o).at_ (t.wk o).key).first)) with
  | false =>
    have hI : OutI t c.kd (c.path.length + 2) (stepP t c (.take o nx th)).2 := outI_back k2 rfl rfl k4
    have hne := kid_no hti hwk.at_ _ hcb
    refine stepL_same h hti hb hn rfl rfl (fun x => cas_same hcb x) hI ⟨rfl, hl.path, ⟨hth, Or.inl ?_, fun e => absurd e h9⟩, hl.full⟩
    rcases hwk.kind with ⟨hs, _⟩ | ⟨hs, _⟩
    · obtain ⟨_, q, v, _, hr⟩ := h.wk1 o ho hs
      rcases hr with hr | ⟨g1, g2, _⟩
      · exact ⟨hr, fun e => by rw [hs] at e; cases e⟩
      · exact absurd g2 hne
    · obtain ⟨_, _, _, hr⟩ := h.wk2 o ho hs
      rcases hr with ⟨g1, g2⟩ | ⟨g1, g2⟩ | ⟨g1, _⟩
      · exact absurd g2 hne
      · exact ⟨g2, fun _ => g1⟩
      · exact absurd (hl2 hs).1 g1
  | true =>
    obtain ⟨n, hcell⟩ := tn_of hti hwk.at_ (t.wk o).key hold hnx.1 (by omega) hcb
    rcases hwk.kind with ⟨hs, _⟩ | ⟨hs, _⟩
    · obtain ⟨L', v, r⟩ := h.turn_ins hti hW ho hs (hl1 hs) hcell n
      have hkp := r.kp h hti hW ho hs n
      refine ⟨L', ⟨r.li, hkp, .ins o v ho hs r.act.1 (fun hd => hd.1.1 hcell) ⟨r.self, fun e => ?_⟩ r.was r.cont (fun j hj hd hji => done_back h hti hW ho r.act.1 n hj hji hd)⟩, OutL.owns (fun x hx => Or.inl hx) ⟨rfl, hl.path.mono hkp hc.path hn, ⟨hth.mono hkp.gr ho, Or.inl ⟨r.self, fun e => ?_⟩, fun e => absurd e h9⟩, hl.full⟩⟩
      · have e' : (t.wk o).state = 2 := e
        rw [hs] at e'; cases e'
      · have e' : (t.wk o).state = 2 := e
        rw [hs] at e'; cases e'
    · obtain ⟨hm3, hnb⟩ := hl2 hs
      obtain ⟨L', l, r⟩ := h.turn_del hti hW ho hs hm3 hcell hnb.symm n
      have hkp := r.kp h hti hW ho hs n
      have hm3' : (t.turn (t.toward (t.wk o).at_ (t.wk o).key) (t.wk o).old nx).wd (t.wk o).old = packW 3 o := by rw [n.wd _ r.gone.1]; exact hm3
      exact ⟨L', ⟨r.li, hkp, .del o ho hs r.act.1 (fun hd => hd.1.1 hcell) ⟨r.self, fun _ => hm3'⟩ r.was r.cont (fun j hj hd hji => done_back h hti hW ho r.act.1 n hj hji hd)⟩, OutL.owns (fun x hx => Or.inl hx) ⟨rfl, hl.path.mono hkp hc.path hn, ⟨hth.mono hkp.gr ho, Or.inl ⟨r.self, fun _ => hm3'⟩, fun e => absurd e h9⟩, hl.full⟩⟩
theorem runL (hti : TI t) (hns : c.kd ≠ .sek) {o : Nat} {th : Th} (ho : OI t o) (hl : LC t L c seen own (.fin o th)) : OutL t L c.key seen own (c.run t th) := by
  obtain ⟨hP, ⟨hth, hst, _⟩, hf⟩ := hl
  cases th with
  | look => exact OutL.look hP rfl hf
  | fail => exact OutL.look (c := c.cut 1) (hP.cut 1) rfl hf
  | told l =>
    obtain ⟨h1, h2, h3⟩ := hth
    have hd : Done t (whole L) o := by
      rcases hst with hst | ⟨_, _, hno⟩
      · exact hst
      · exact absurd rfl (hno l)
    refine ⟨rfl, fun _ => ⟨rfl, ?_⟩⟩
    rcases h3 with ⟨k1, k2⟩ | ⟨k1, k2⟩
    · exact Or.inl ⟨k1, rfl, o, h1, ho, k2, h2, hd⟩
    · exact Or.inr (Or.inl ⟨k1, rfl, o, h1, ho, k2, h2, hd⟩)
theorem stepL_fin (h : LI t L) (hti : TI t) (hc : CC t c) (hb : Bd t c) (hn : seen (present t L c.key)) (hns : c.kd ≠ .sek) {o : Nat} {th : Th} (hsi : SI t c (.fin o th)) (hl : LC t L c seen own (.fin o th)) : StepL t L c seen own (.fin o th) := by
  obtain ⟨ho, hthi⟩ := hsi
  have hI := run_si hc hthi
  have hout := runL hti hns ho hl
  have hwk := hti.wks o ho.1 ho.2
  have hW := hb.ws
  have hp0 := packW_div (s := 0) (i := o) (by omega) (by have := ho.2; omega)
  cases hcb : t.ms.casB (t.word (t.wk o).at_) (packW (t.wk o).state o) with
  | false => exact stepL_same h hti hb hn rfl rfl (fun x => cas_same hcb x) hI hout
  | true =>
    have hact : WkAct t o := casB_yes hcb
    obtain ⟨f1, f2⟩ := wd_flag hti hW ho hact
    have hst12 : (t.wk o).state = 1 ∨ (t.wk o).state = 2 := by rcases hwk.kind with ⟨e, _⟩ | ⟨e, _⟩ <;> simp [e]
    have hpT : (t.wk o).at_ ∈ (whole L).inners := h.flag_in hwk.at_ (by rw [f1]; exact hst12)
    have hv : t.wd (t.wk o).at_ = packW (t.wk o).state o := hact
    obtain ⟨w0, e0⟩ := wc_cas hti hwk.at_ (v' := packW 0 o) hcb (by
      rw [← hv]
      unfold rk
      rw [f1, f2, hp0.1, hp0.2]
      rcases hst12 with e | e <;> rw [e] <;> simp <;> omega)
    have w : Wc t (stepP t c (.fin o th)).1 (t.wk o).at_ := ⟨⟨w0.gr.nl, w0.gr.nd, w0.gr.wl, w0.gr.wk⟩, w0.kid, w0.off, w0.rise⟩
    have e0' : (stepP t c (.fin o th)).1.wd (t.wk o).at_ = packW 0 o := e0
    have hg := go_word h hti hW w ⟨fun j hj => Or.inl hj, fun j hj => Or.inl hj⟩ hpT (by rw [f1]; rcases hst12 with e | e <;> rw [e] <;> omega)
      (fun i hi _ _ e => by
        rw [e0'] at e
        have h1 := (packW_div (s := 3) (i := i) (by omega) (by have := hi.2; omega)).2
        rw [← e, hp0.2] at h1; omega)
      (fun i hi ha hai => by
        have hio := act_one hti hW hi ho hai hact ha
        subst hio
        refine ⟨fun hs => ?_, fun hs => ?_⟩
        · rcases hl.stp.2.1 with e | e
          · exact e.1
          · have := e.1; rw [hs] at this; cases this
        · rcases hl.stp.2.1 with e | e
          · exact Or.inl ⟨e.2 hs, e.1⟩
          · exact Or.inr e.2.1)
      (fun e => by rw [e0', hp0.2] at e; omega)
      (fun e => by rw [e0', hp0.2] at e; omega)
      (fun p hp => Or.inl hp) (fun i hi => Or.inl hi)
    exact ⟨L, hg, OutL.owns (fun x hx => Or.inl hx) (OutL.mono hti hW hg.kp hn hI hout)⟩
end
end Go.Proofs.Ytmhiolhgofackaa
namespace Go.Proofs.Ytmhiolhgofackaa
open Go.RowKit
set_option linter.unusedVariables false
set_option linter.unusedSimpArgs false

section
variable {t t' : Tr} {L L' : PT} {c : Cl} {seen : Bool → Prop} {own : Nat → Prop}
theorem rk_flag {s : Int} {i : Nat} (hs : s = 1 ∨ s = 2) (hi : i ≤ 1000000000) : rk (packW s (i : Int)) = 2 * (i : Int) ∧ packW s (i : Int) % 4 = s ∧ packW s (i : Int) / 4 = i := by
  have h := packW_div (s := s) (i := i) (by omega) hi
  refine ⟨?_, h.2, h.1⟩
  unfold rk
  rw [h.1, h.2]
  rcases hs with e | e <;> rw [e] <;> simp <;> omega
theorem rk_clean {s : Int} (hs : s % 4 = 0) : rk s = s / 4 * 2 + 1 := by unfold rk; rw [hs]; rfl
theorem stepL_lose (h : LI t L) (hti : TI t) (hc : CC t c) (hb : Bd t c) (hn : seen (present t L c.key)) {l : Nat} (hsi : SI t c (.lose l)) (hl : LC t L c seen own (.lose l)) : StepL t L c seen own (.lose l) := by
  obtain ⟨_, k2, k3, k4, _⟩ := stepI_lose hti hc hb hsi
  obtain ⟨hk, hp, hlt⟩ := hsi
  obtain ⟨a0, a1, hkid, hlf, hhas⟩ := hl.stp
  obtain ⟨u1, u2⟩ := hc.up (n := 0) (by omega)
  obtain ⟨v1, v2⟩ := hc.up (n := 1) (by omega)
  have g0 := up_get (c := c) (n := 0) (by omega)
  have g1 := up_get (c := c) (n := 1) (by omega)
  have m0 := List.mem_of_getElem? g0
  have m1 := List.mem_of_getElem? g1
  have hW := hb.ws
  obtain ⟨o, ho⟩ : ∃ o : Wk, o = ⟨2, c.key, (c.up 1).node, (c.up 0).node, none, (c.up 0).seen⟩ := ⟨_, rfl⟩
  have hoa : o.at_ = (c.up 1).node := by rw [ho]
  cases hcb : t.ms.casB (t.word (c.up 1).node) (c.up 1).seen with
  | false =>
    have hcb' : t.ms.casB (t.word o.at_) (c.up 1).seen = false := by rw [hoa]; exact hcb
    have hbe : (stepP t c (.lose l)).1 = t.cas (t.word o.at_) (c.up 1).seen (packW o.state (t.ws.length + 1)) := by
      show t.begin ⟨2, c.key, (c.up 1).node, (c.up 0).node, none, (c.up 0).seen⟩ (c.up 1).seen = _
      rw [← ho]; exact begin_no hcb'
    have hI : OutI t c.kd (c.path.length + 2) (stepP t c (.lose l)).2 := outI_back k2 (by rw [hbe]; rfl) (by rw [hbe]; rfl) k4
    refine stepL_same h hti hb hn (by rw [hbe]; rfl) (by rw [hbe]; rfl) (fun x => by rw [hbe]; exact cas_same hcb' x) hI ?_
    show OutL t L c.key seen own (if t.ms.casB (t.word (c.up 1).node) (c.up 1).seen then (c, some (.mark (t.ws.length + 1) (.told l) .fail)) else (c.cut 1).met t (t.ms.at (t.word (c.up 1).node)))
    rw [hcb, if_neg Bool.false_ne_true]
    have := metL (own := own) h hti (hc.cut 1) (hl.path.cut 1) hl.full (ne_nil_of_len (by rw [cutC_len]; omega))
    rw [cut_up (by omega)] at this
    exact this
  | true =>
    have hcb' : t.ms.casB (t.word o.at_) (c.up 1).seen = true := by rw [hoa]; exact hcb
    have hbe : (stepP t c (.lose l)).1 = (t.cas (t.word o.at_) (c.up 1).seen (packW o.state (t.ws.length + 1))).start o := by
      show t.begin ⟨2, c.key, (c.up 1).node, (c.up 0).node, none, (c.up 0).seen⟩ (c.up 1).seen = _
      rw [← ho]; exact begin_ok hcb'
    obtain ⟨t', ht'⟩ : ∃ t', t' = (stepP t c (.lose l)).1 := ⟨_, rfl⟩
    have hst : o.state = 2 := by rw [ho]
    obtain ⟨s1, s2, s3⟩ := hl.path.asked _ m1 a1
    obtain ⟨r1, r2, r3⟩ := hl.path.asked _ m0 a0
    have hv : t.wd (c.up 1).node = (c.up 1).seen := casB_yes hcb
    obtain ⟨f1, f2, f3⟩ := rk_flag (s := 2) (i := t.ws.length + 1) (Or.inr rfl) (by omega)
    obtain ⟨w0, e0⟩ := wc_cas hti v1 (v' := packW 2 ((t.ws.length + 1 : Nat) : Int)) hcb (by rw [f1, rk_clean s1]; omega)
    have hbe' : t' = (t.cas (t.word (c.up 1).node) (c.up 1).seen (packW 2 ((t.ws.length + 1 : Nat) : Int))).start o := by
      rw [ht', hbe, hoa, hst]; rfl
    have hgr : Gr t t' := by rw [ht']; exact k3
    have w : Wc t t' (c.up 1).node := by
      refine ⟨hgr, ?_, ?_, ?_⟩
      · rw [hbe']; exact w0.kid
      · rw [hbe']; exact w0.off
      · rw [hbe']; exact w0.rise
    have e0' : t'.wd (c.up 1).node = packW 2 ((t.ws.length + 1 : Nat) : Int) := by rw [hbe']; exact e0
    have hwl : t'.ws.length = t.ws.length + 1 := by rw [hbe']; simp [Tr.start, Tr.cas]
    have hwi : t'.wk (t.ws.length + 1) = o := by rw [hbe']; exact wk_last (t := t.cas (t.word (c.up 1).node) (c.up 1).seen (packW 2 ((t.ws.length + 1 : Nat) : Int)))
    have hnsq : t'.ns = t.ns := by rw [hbe']; rfl
    have hsit := (hl.path.reach _ m1).sit h v1
    obtain ⟨hpT, hon⟩ : (c.up 1).node ∈ (whole L).inners ∧ OnPath t c.key (c.up 1).node := by
      rcases hsit with e | e
      · exact e
      · have := e.2; rw [hv] at this; omega
    have hcell : t.kid (t.toward (c.up 1).node c.key) = (c.up 0).node := hl.path.next _ _ _ g1 (by rw [show c.path.length - 1 - 1 + 1 = c.path.length - 1 - 0 by omega]; exact g0) a1 hv
    have hoT : (c.up 0).node ∈ (whole L).nodes := by rw [← hcell]; exact onpath_mem h.kt rfl (.step hon v1)
    have hcases : ∀ j, OI t' j → OI t j ∨ j = t.ws.length + 1 := fun j hj => by
      have h1 := hj.1
      have h2 := hj.2
      rw [hwl] at h2
      by_cases e : j = t.ws.length + 1
      · exact Or.inr e
      · exact Or.inl ⟨h1, by omega⟩
    have hcell' : t'.cell0 o = o.old := by
      unfold Tr.cell0
      rw [hoa, w.toward v1]
      rw [ho]; exact hcell
    have hdel : DelOk t' (whole L) (t.ws.length + 1) := by
      refine ⟨⟨?_, ?_⟩, ⟨?_, ?_, ?_⟩, ⟨l, w.lf hlf, ?_, ?_⟩, Or.inl ⟨?_, ?_⟩⟩
      · rw [hwi, ho]; exact fun _ => w.path hon
      · rw [hwi, hoa, e0', f1]; exact Int.le_refl _
      · rw [hwi, ho]; exact r1
      · rw [hwi, ho]; show (c.up 0).seen / 4 < _; omega
      · rw [hwi, ho]; have := w.up u1; show rk (c.up 0).seen ≤ rk (t'.wd (c.up 0).node); omega
      · rw [hwi, w.gr.nd l hlf.1, ho]; exact hhas
      · rw [hwi, ho]
        show t'.wd (c.up 0).node = (c.up 0).seen ∨ t'.wd (c.up 0).node = packW 3 ((t.ws.length + 1 : Nat) : Int) → t'.kid (t'.toward (c.up 0).node c.key) = l
        rw [w.toward u1]
        have h3 := packW_div (s := 3) (i := t.ws.length + 1) (by omega) (by omega)
        intro hx
        by_cases e : (c.up 0).node = (c.up 1).node
        · rw [e, e0'] at hx
          rcases hx with hx | hx
          · rw [hx, r1] at f2; omega
          · rw [hx, h3.2] at f2; omega
        · rw [w.off _ u1 e] at hx
          rcases hx with hx | hx
          · exact hkid hx
          · have := (hti.word _ u1).1
            have e3 : t.ms.at (t.word (c.up 0).node) = t.wd (c.up 0).node := rfl
            rw [e3, hx, h3.1] at this
            omega
      · unfold WkAct
        rw [hwi, hoa, hst]; exact e0'
      · rw [hwi]; exact hcell'
    have hg := go_word h hti hW w ⟨fun j hj => (hcases j hj).imp id (fun e => by rw [e, hwi, ho]; exact hoT), fun j hj => (hcases j hj).imp id (fun e q hq => by rw [e, hwi, ho] at hq; cases hq)⟩ hpT (by rw [hv]; omega)
      (fun i hi _ _ e => by
        rw [e0'] at e
        have h1 := (packW_div (s := 3) (i := i) (by omega) (by have := hi.2; omega)).2
        rw [← e, f2] at h1; omega)
      (fun i hi ha hact => by
        have := (wd_flag hti hW hi hact).1
        rw [ha, hv] at this
        have hk := (hti.wks i hi.1 hi.2).kind
        rcases hk with ⟨hk, _⟩ | ⟨hk, _⟩ <;> omega)
      (fun _ => by
        rw [e0', f3, f2]
        have e : (((t.ws.length + 1 : Nat) : Int)).toNat = t.ws.length + 1 := by omega
        rw [e, hwi, hoa, hst]
        exact ⟨by omega, rfl, rfl⟩)
      (fun e => by rw [e0', f2] at e; omega)
      (fun p hp => Or.inl (by unfold Inn Tr.nd at hp ⊢; rw [hnsq] at hp; exact hp))
      (fun i hi => (hcases i hi).imp id (fun e => by
        subst e
        exact ⟨⟨(fun e => by rw [hwi, hst] at e; cases e), fun _ => hdel⟩, fun htr => htr.1 (by rw [hwi]; exact hcell')⟩))
    refine ⟨L, by rw [← ht']; exact hg, ?_⟩
    rw [← ht']
    show OutL t' L c.key seen (ownS own t t') (if t.ms.casB (t.word (c.up 1).node) (c.up 1).seen then (c, some (.mark (t.ws.length + 1) (.told l) .fail)) else (c.cut 1).met t (t.ms.at (t.word (c.up 1).node)))
    rw [hcb, if_pos rfl]
    refine ⟨rfl, hl.path.mono hg.kp hc.path hn, ⟨⟨Or.inr ⟨by omega, by rw [hwl]; omega⟩, by rw [hwi, ho], Or.inr ⟨hk, by rw [hwi]; exact hst⟩⟩, (fun l e => by cases e), by simp, fun _ _ => rfl⟩, hl.full⟩
set_option maxHeartbeats 1000000 in
theorem stepL_grow (h : LI t L) (hti : TI t) (hc : CC t c) (hb : Bd t c) (hn : seen (present t L c.key)) {l : Nat} (hsi : SI t c (.grow l)) (hl : LC t L c seen own (.grow l)) : StepL t L c seen own (.grow l) := by
  obtain ⟨_, k2, k3, k4, _⟩ := stepI_grow hti hc hb hsi
  obtain ⟨hk, hp, hlt, hli⟩ := hsi
  obtain ⟨a0, hkid, hlf, hhas⟩ := hl.stp
  obtain ⟨u1, u2⟩ := hc.up (n := 0) (List.length_pos_iff.2 hp)
  have g0 := up_get (c := c) (n := 0) (List.length_pos_iff.2 hp)
  have m0 := List.mem_of_getElem? g0
  have hW := hb.ws
  have hroom := room_of hti hb.ns
  cases hcb : t.ms.casB (t.word (c.up 0).node) (c.up 0).seen with
  | false =>
    have hbe : (stepP t c (.grow l)) = (t.cas (t.word (c.up 0).node) (c.up 0).seen (packW 1 (t.ws.length + 1)), c.met t (t.ms.at (t.word (c.up 0).node))) := by
      simp only [stepP, if_pos hroom, hcb, if_neg Bool.false_ne_true]
      rw [begin_no (o := ⟨1, c.key, (c.up 0).node, l, none, 0⟩) hcb]
    have hI : OutI t c.kd (c.path.length + 2) (stepP t c (.grow l)).2 := outI_back k2 (by rw [hbe]; rfl) (by rw [hbe]; rfl) k4
    refine stepL_same h hti hb hn (by rw [hbe]; rfl) (by rw [hbe]; rfl) (fun x => by rw [hbe]; exact cas_same hcb x) hI ?_
    rw [hbe]
    exact metL h hti hc hl.path hl.full hp
  | true =>
    obtain ⟨o, ho⟩ : ∃ o : Wk, o = ⟨1, c.key, (c.up 0).node, l, some (t.ns.length + 2), 0⟩ := ⟨_, rfl⟩
    have hcb' : t.ms.casB (t.word o.at_) (c.up 0).seen = true := by rw [ho]; exact hcb
    have hoa : o.at_ = (c.up 0).node := by rw [ho]
    have hst : o.state = 1 := by rw [ho]
    obtain ⟨b1, b2⟩ := begin_split (t := t) (o := o) (l := l) (k := c.key) (v := c.val) hcb' (by rw [hoa]; exact u1.1) hroom
    have hbe : (stepP t c (.grow l)) = ((t.split l c.key c.val).begin o (c.up 0).seen, (c, some (.take (t.ws.length + 1) (t.ns.length + 2) (.told l)))) := by
      simp only [stepP, if_pos hroom]
      rw [if_pos hcb, ← ho, b1]
    obtain ⟨t', ht'⟩ : ∃ t', t' = (stepP t c (.grow l)).1 := ⟨_, rfl⟩
    have hgr : Gr t t' := by rw [ht']; exact k3
    have hbe' : t' = (((t.split l c.key c.val)).cas ((t.split l c.key c.val).word o.at_) (c.up 0).seen (packW o.state ((t.split l c.key c.val).ws.length + 1))).start o := by
      rw [ht', hbe]; exact begin_ok b2
    obtain ⟨n1, n2, n3, n4, n5⟩ := join_nd (t := t) (lo := lowN t l c.key c.val) (hi := highN t l c.key c.val)
    rw [← split_eq] at n1 n2 n3 n4 n5
    obtain ⟨x1, x2⟩ := leafs hli c.key c.val
    have hnd' : ∀ p, t'.nd p = (t.split l c.key c.val).nd p := fun p => by rw [hbe']; rfl
    have hns' : t'.ns.length = t.ns.length + 3 := by rw [hbe']; exact n5
    have hws2 : (t.split l c.key c.val).ws.length = t.ws.length := (Gr.split t l c.key c.val).2.2.1
    have hwd2 : (t.split l c.key c.val).word o.at_ = t.word (c.up 0).node := by rw [hoa]; unfold Tr.word; rw [n1 _ u1.1]
    have hwl : t'.ws.length = t.ws.length + 1 := by rw [hbe']; simp [Tr.start, Tr.cas, hws2]
    have hwi : t'.wk (t.ws.length + 1) = o := by
      rw [hbe', ← hws2]
      exact wk_last (t := ((t.split l c.key c.val)).cas ((t.split l c.key c.val).word o.at_) (c.up 0).seen (packW o.state ((t.split l c.key c.val).ws.length + 1)))
    have hat2 : ∀ x, (t.split l c.key c.val).ms.at x = t.ms.at x := fun x => by rw [split_eq]; exact MS.at_grow _ _ _
    have hat' : ∀ x, t'.ms.at x = if x = t.word (c.up 0).node then packW 1 ((t.ws.length + 1 : Nat) : Int) else t.ms.at x := fun x => by
      rw [hbe']
      show ((t.split l c.key c.val).ms.cas _ _ _).at x = _
      rw [MS.at_cas, hwd2, hws2, hst, hat2]
      rw [hwd2] at b2
      by_cases e : x = t.word (c.up 0).node
      · rw [if_pos ⟨e, b2⟩, if_pos e]; rfl
      · rw [if_neg (fun h => e h.1), if_neg e]
    obtain ⟨r1, r2, r3⟩ := hl.path.asked _ m0 a0
    have hv : t.wd (c.up 0).node = (c.up 0).seen := casB_yes hcb
    obtain ⟨f1, f2, f3⟩ := rk_flag (s := 1) (i := t.ws.length + 1) (Or.inl rfl) (by omega)
    have hword : ∀ p, Inn t p → t'.word p = t.word p := fun p hp => by unfold Tr.word; rw [hgr.nd p hp.1]
    have e0' : t'.wd (c.up 0).node = packW 1 ((t.ws.length + 1 : Nat) : Int) := by
      unfold Tr.wd
      rw [hword _ u1, hat', if_pos rfl]
    have w : Wc t t' (c.up 0).node := by
      refine ⟨hgr, fun p hp => ⟨?_, ?_⟩, fun p hp hne => ?_, ?_⟩
      · unfold Tr.kid; rw [hat', if_neg (hti.left_word hp u1)]
      · unfold Tr.kid; rw [hat', if_neg (hti.right_word hp u1)]
      · unfold Tr.wd; rw [hword p hp, hat', if_neg (fun e => hne (hti.word_word hp u1 e))]
      · rw [e0', f1, hv, rk_clean r1]; omega
    have hsit := (hl.path.reach _ m0).sit h u1
    obtain ⟨hpT, hon⟩ : (c.up 0).node ∈ (whole L).inners ∧ OnPath t c.key (c.up 0).node := by
      rcases hsit with e | e
      · exact e
      · have := e.2; rw [hv] at this; omega
    have hcell := hkid hv
    have hoT : l ∈ (whole L).nodes := by rw [← hcell]; exact onpath_mem h.kt rfl (.step hon u1)
    have hltT := kt_lt h.kt
    have hcases : ∀ j, OI t' j → OI t j ∨ j = t.ws.length + 1 := fun j hj => by
      have h1 := hj.1
      have h2 := hj.2
      rw [hwl] at h2
      by_cases e : j = t.ws.length + 1
      · exact Or.inr e
      · exact Or.inl ⟨h1, by omega⟩
    have hcell' : t'.cell0 o = o.old := by
      unfold Tr.cell0
      rw [hoa, w.toward u1]
      rw [ho]; exact hcell
    have hmod := hti.mod
    have h3 := hti.three
    have hnb := hb.ns
    have hw0 := hti.wordE u1
    have hu3 := u1.1
    have hout : ∀ x : Int, (t.ns.length : Int) ≤ x → t'.ms.at x = 0 := fun x hx => by
      rw [hat', if_neg (by rw [hw0]; omega)]
      exact at_has (by unfold MS.has; apply decide_eq_false; rw [hti.len]; omega)
    have hlen : (t.ms.c.length : Int) = t.ns.length := by rw [hti.len]
    have q0 : t'.nd t.ns.length = lowN t l c.key c.val := by rw [hnd', n2]
    have q1 : t'.nd (t.ns.length + 1) = highN t l c.key c.val := by rw [hnd', n3]
    have q2 : t'.nd (t.ns.length + 2) = ⟨true, (highN t l c.key c.val).fin, (highN t l c.key c.val).key, 0, (t.ns.length : Int)⟩ := by rw [hnd', n4, hlen]
    have hlo : lowN t' l c.key c.val = lowN t l c.key c.val := by unfold lowN; rw [hgr.nd l hlt]
    have hhi : highN t' l c.key c.val = highN t l c.key c.val := by unfold highN; rw [hgr.nd l hlt]
    have hact : WkAct t' (t.ws.length + 1) := by unfold WkAct; rw [hwi, hoa, hst]; exact e0'
    have hfr : Fresh t' (t.ns.length + 2) := ⟨t.ws.length + 1, ⟨by omega, by rw [hwl]; omega⟩, by rw [hwi]; exact hst, by rw [hwi, ho], hact, by rw [hwi]; exact hcell'⟩
    have hwq : t'.wd (t.ns.length + 2) = 0 := by
      unfold Tr.wd Tr.word
      rw [q2]; exact hout _ (Int.le_refl _)
    have hinq : Inn t' (t.ns.length + 2) := ⟨by rw [hns']; omega, by rw [q2]⟩
    have em : t.ns.length + 2 - 2 = t.ns.length := by omega
    have em1 : t.ns.length + 2 - 1 = t.ns.length + 1 := by omega
    have em2 : ((t.ns.length + 2 : Nat) : Int) - 2 = (t.ns.length : Int) := by omega
    have hins : InsOk t' (whole L) (t.ws.length + 1) := by
      refine ⟨⟨?_, ?_⟩, t.ns.length + 2, c.val, by rw [hwi, ho], Or.inr ⟨hact, by rw [hwi]; exact hcell', by rw [hwi, ho]; exact w.lf hlf, by rw [hwi, ho]; show (t'.nd l).has c.key = false; rw [hgr.nd l hlt]; exact hhas, ?_⟩⟩
      · rw [hwi, ho]; exact fun _ => w.path hon
      · rw [hwi, hoa, e0', f1]; exact Int.le_refl _
      · rw [hwi, ho]
        refine ⟨hinq, ⟨fun e => by have := hltT _ e; omega, fun e => by have := hltT _ e; omega, fun e => by have := hltT _ e; omega⟩, hwq, ?_, ?_, ⟨⟨by rw [hns']; omega, ?_⟩, ⟨by rw [hns']; omega, ?_⟩⟩, ?_, ?_, ?_, fun j hj => ?_, fun j hj hq => ?_⟩
        · unfold Tr.left Tr.kid
          rw [q2]
          dsimp only
          rw [hout _ (by omega)]
          omega
        · unfold Tr.right Tr.kid
          rw [q2]
          dsimp only
          rw [hout _ (by omega)]
          omega
        · rw [em, q0]; exact x1
        · rw [em1, q1]; exact x2
        · rw [em, q0, hlo]
        · rw [em1, q1, hhi]
        · rw [q2, hhi, em2]
        · rcases hcases j hj with hj' | e
          · have := (hti.wks j hj'.1 hj'.2).old
            rw [hgr.wk j hj'.1 hj'.2]
            omega
          · rw [e, hwi, ho]
            dsimp only
            omega
        · rcases hcases j hj with hj' | e
          · rw [hgr.wk j hj'.1 hj'.2] at hq
            have := ((hti.wks j hj'.1 hj'.2).nxt _ hq).1
            omega
          · exact e
    have hg := go_word h hti hW w ⟨fun j hj => (hcases j hj).imp id (fun e => by rw [e, hwi, ho]; exact hoT), fun j hj => (hcases j hj).imp id (fun e q hq => by rw [e, hwi, ho] at hq; simp only [Option.some.injEq] at hq; omega)⟩ hpT (by rw [hv]; omega)
      (fun i hi _ _ e => by
        rw [e0'] at e
        have h1 := (packW_div (s := 3) (i := i) (by omega) (by have := hi.2; omega)).2
        rw [← e, f2] at h1; omega)
      (fun i hi ha hact => by
        have := (wd_flag hti hW hi hact).1
        rw [ha, hv] at this
        have hk := (hti.wks i hi.1 hi.2).kind
        rcases hk with ⟨hk, _⟩ | ⟨hk, _⟩ <;> omega)
      (fun _ => by
        rw [e0', f3, f2]
        have e : (((t.ws.length + 1 : Nat) : Int)).toNat = t.ws.length + 1 := by omega
        rw [e, hwi, hoa, hst]
        exact ⟨by omega, rfl, rfl⟩)
      (fun e => by rw [e0', f2] at e; omega)
      (fun p hp => by
        obtain ⟨p1, p2⟩ := hp
        rw [hns'] at p1
        by_cases e : p < t.ns.length
        · rw [hgr.nd p e] at p2; exact Or.inl ⟨e, p2⟩
        · by_cases e1 : p = t.ns.length
          · rw [e1, q0, x1] at p2; cases p2
          · by_cases e2 : p = t.ns.length + 1
            · rw [e2, q1, x2] at p2; cases p2
            · have e3 : p = t.ns.length + 2 := by omega
              rw [e3]; exact Or.inr ⟨hfr, hwq⟩)
      (fun i hi => (hcases i hi).imp id (fun e => by
        subst e
        exact ⟨⟨fun _ => hins, (fun e => by rw [hwi, hst] at e; cases e)⟩, fun htr => htr.1 (by rw [hwi]; exact hcell')⟩))
    refine ⟨L, by rw [← ht']; exact hg, ?_⟩
    rw [← ht', hbe]
    refine ⟨rfl, hl.path.mono hg.kp hc.path hn, ⟨⟨Or.inr ⟨by omega, by rw [hwl]; omega⟩, by rw [hwi, ho], Or.inl ⟨hk, by rw [hwi]; exact hst⟩⟩, by simp, fun _ => by rw [hwi, ho], fun e => by rw [hwi, hst] at e; cases e⟩, hl.full⟩
/-- each step, whoever steps -/
theorem li_step (h : LI t L) (hti : TI t) (hc : CC t c) (hb : Bd t c) (hn : seen (present t L c.key)) (hns : c.kd ≠ .sek) {s : Stp} (hsi : SI t c s) (hl : LC t L c seen own s) : StepL t L c seen own s := by
  cases s with
  | desc b m => exact stepL_desc h hti hc hb hn hns hsi hl
  | beg => exact stepL_beg h hti hc hb hn hsi
  | look => exact stepL_look h hti hc hb hn hsi hl
  | down => exact stepL_down h hti hc hb hn hsi hl
  | grow l => exact stepL_grow h hti hc hb hn hsi hl
  | lose l => exact stepL_lose h hti hc hb hn hsi hl
  | mark o th fl => exact stepL_mark h hti hc hb hn hsi hl
  | drop o th => exact stepL_drop h hti hc hb hn hsi hl
  | take o nx th => exact stepL_take h hti hc hb hn hsi hl
  | fin o th => exact stepL_fin h hti hc hb hn hns hsi hl
end
end Go.Proofs.Ytmhiolhgofackaa
namespace Go.Proofs.Ytmhiolhgofackaa
open Go.RowKit
set_option linter.unusedVariables false
set_option linter.unusedSimpArgs false

section
variable {t : Tr} {L : PT} {c : Cl} {seen : Bool → Prop} {own : Nat → Prop}
theorem at_kt : ∀ {X : PT}, At t X → Kt t X
  | .leaf p, h => h
  | .node p l r, ⟨h1, h2, h3, h4, h5⟩ => ⟨⟨h1.lt, h1.inner⟩, h2, h3, at_kt h4, at_kt h5⟩
theorem kt_unique : ∀ {X Y : PT}, Kt t X → Kt t Y → X.pl = Y.pl → X = Y
  | .leaf p, .leaf q, _, _, e => by rw [show p = q from e]
  | .leaf p, .node q l r, h, k, e => by
    have e' : p = q := e
    have h1 := h.2
    have h2 := k.1.2
    rw [e', h2] at h1; cases h1
  | .node p l r, .leaf q, h, k, e => by
    have e' : p = q := e
    have h1 := h.1.2
    have h2 := k.2
    rw [e', h2] at h1; cases h1
  | .node p l r, .node q x y, ⟨_, h2, h3, h4, h5⟩, ⟨_, k2, k3, k4, k5⟩, e => by
    have e' : p = q := e
    subst e'
    rw [kt_unique h4 k4 (h2.symm.trans k2), kt_unique h5 k5 (h3.symm.trans k3)]
theorem whole_unique {L L' : PT} (h : Kt t (whole L)) (k : Kt t (whole L')) : L = L' := by
  have := kt_unique h k rfl
  simp only [PT.node.injEq, true_and, and_true] at this
  exact this
theorem LI.sameC {T : Tr} (h : LI t L) (hs : SameC t T) : LI T L := h.same hs.ns hs.ws hs.atc
/-- a call that goes on alone -/
theorem li_run : ∀ (n : Nat) {t : Tr} {c : Cl} {s : Stp} {T : Tr} {C : Cl} {L : PT}, OkRun n t c s T C → LI t L → TI t → CC t c → SI t c s → LC t L c (fun _ => True) (fun _ => True) s → c.kd ≠ .sek → T.ns.length ≤ 60000 → ∃ L', LI T L'
  | 0, _, _, _, _, _, _, h, _, _, _, _, _, _, _ => h.elim
  | n + 1, t, c, s, T, C, L, h, hli, ht, hc, hs, hlc, hns, hN => by
    have hgT := run_gr (n + 1) h
    obtain ⟨_, sm, h3⟩ := h
    have hb : Bd t c := ⟨Nat.le_trans hgT.nl hN, sm.asked, sm.ws, sm.path⟩
    obtain ⟨_, k2, k3, ⟨k4, k5, k6, k7⟩, _⟩ := ti_step ht hc hb hs
    obtain ⟨L', hg, ho⟩ := li_step hli ht hc hb trivial hns hs hlc
    have ho' := OutL.owns (own' := fun _ => True) (fun _ _ => trivial) ho
    cases hso : (stepP t c s).2.2 with
    | none => rw [hso] at h3; obtain ⟨rfl, _⟩ := h3; exact ⟨L', hg.li⟩
    | some s' =>
      rw [hso] at h3
      obtain ⟨_, hm⟩ := ho'
      rw [hso] at hm
      exact li_run n h3 hg.li k2 k5 (k6 s' hso) hm (by rw [k4]; exact hns) hN
theorem LI.new (ms : MS) (hc : ms.c.length = 0) : LI (Tr.new ms) (.leaf 0) := by
  obtain ⟨c, n⟩ := ms
  have hc' : c = [] := List.length_eq_zero_iff.1 hc
  subst hc'
  obtain ⟨hq, ho, _⟩ := new_facts ⟨[], n⟩ rfl
  have hti := TI.new ⟨[], n⟩ rfl
  have hi : ∀ p, Inn (Tr.new ⟨[], n⟩) p → p = 2 := fun p hp => by
    obtain ⟨h1, h2⟩ := hp
    have h1' : p < 3 := h1
    match p, h1' with
    | 0, _ => cases h2
    | 1, _ => cases h2
    | 2, _ => rfl
  have hwd : (Tr.new ⟨[], n⟩).wd 2 = 0 := rfl
  have hno : ∀ i, ¬ OI (Tr.new ⟨[], n⟩) i := fun i h => by
    have h1 := h.1
    have h2 : i ≤ 0 := h.2
    omega
  exact ⟨at_kt hq.at_, by simp [PT.nodes, PT.inners, PT.leaves], ho, fun p hp hx => by rw [hi p hp, hwd] at hx; omega, fun p hp hx => by rw [hi p hp, hwd] at hx; omega, fun p hp => by rw [hi p hp]; exact Or.inl (by simp [PT.inners]), fun i h => absurd h (hno i), fun i h => absurd h (hno i)⟩
theorem ins_lc (k : ByteArray) (v : Int) : LC t L (Cl.new .ins k v) seen own .beg := ⟨⟨by simp [Cl.new], by simp [Cl.new], by simp [Cl.new]⟩, trivial, fun _ => rfl⟩
theorem rem_lc (k : ByteArray) : LC t L (Cl.new .rem k 0).start seen own (.desc (t.toward 2 k) .way) := by
  refine ⟨⟨fun ps hps => ?_, fun ps hps ha => ?_, fun i a b ha hb => ?_⟩, ⟨by simp [Cl.new, Cl.start], rfl, fun ps hps => ?_⟩, fun e => by cases e⟩
  · have hps' : ps ∈ [(⟨2, false, 0⟩ : Ps)] := hps
    simp only [List.mem_singleton] at hps'
    subst hps'; exact .on .root
  · have hps' : ps ∈ [(⟨2, false, 0⟩ : Ps)] := hps
    simp only [List.mem_singleton] at hps'
    subst hps'; cases ha
  · have hb' : [(⟨2, false, 0⟩ : Ps)][i + 1]? = some b := hb
    simp at hb'
  · have hps' : ps ∈ [(⟨2, false, 0⟩ : Ps)] := hps
    simp only [List.mem_singleton] at hps'
    subst hps'; rfl
theorem fnd_lc (hti : TI t) (k : ByteArray) : LC t L (Cl.new .fnd k 0) seen own (.desc (t.toward 2 k) .find) := ⟨⟨by simp [Cl.new], by simp [Cl.new], by simp [Cl.new]⟩, ⟨2, hti.inn2, rfl, .on .root⟩, fun e => by cases e⟩
/-- nothing is under way in a quiet tree -/
theorem quiet_act (hq : Quiet t L) (h : LI t L) (hti : TI t) (hW : t.ws.length ≤ 900000000) {w : Nat} (hw : OI t w) : ¬ WkAct t w := fun ha => by
  have hwk := hti.wks w hw.1 hw.2
  obtain ⟨f1, _⟩ := wd_flag hti hW hw ha
  have hst : (t.wk w).state = 1 ∨ (t.wk w).state = 2 := by rcases hwk.kind with ⟨e, _⟩ | ⟨e, _⟩ <;> simp [e]
  have hin := h.flag_in hwk.at_ (by rw [f1]; exact hst)
  have hcl := (at_inners hq.at_ _ hin).clean
  have e : t.ms.at (t.nd (t.wk w).at_).cell = t.wd (t.wk w).at_ := rfl
  rw [e, f1] at hcl
  omega
end
end Go.Proofs.Ytmhiolhgofackaa
