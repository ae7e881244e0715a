/- PACKAGE bst, PLAINLY: the tree as it stands between any two steps, whoever steps; works, begun and ended
PACKAGE bst, PLAINLY: the tree as it stands between any two steps: what works have done, and what they will
PACKAGE bst, PLAINLY: a child is turned: a leaf is put in, or taken out
PACKAGE bst, PLAINLY: what a turned child leaves
PACKAGE bst, PLAINLY: a leaf is put in, or taken out
PACKAGE bst, PLAINLY: a leaf is taken out -/
import Derived.Test.YtmhiolhgofackaaBsTi
import Derived.Test.YtmhiolhgofackaaBsOp
namespace Go.Proofs.Ytmhiolhgofackaa
open Go.RowKit
set_option linter.unusedVariables false
set_option linter.unusedSimpArgs false

def PT.nodes (T : PT) : List Nat := T.inners ++ T.leaves
/-- a shape as it is kept: by its children alone -/
def Kt (t : Tr) : PT → Prop
  | .leaf p => LfOk t p
  | .node p l r => Inn t p ∧ t.kid (t.left p) = l.pl ∧ t.kid (t.right p) = r.pl ∧ Kt t l ∧ Kt t r
def FmK (t : Tr) (f : Fm) (h : Nat) : Prop := Inn t f.p ∧ t.kid (t.br f) = h ∧ t.kid (t.br' f) = f.sib.pl ∧ Kt t f.sib
def CxK (t : Tr) : List Fm → Nat → Prop
  | [], _ => True
  | f :: C, h => FmK t f h ∧ CxK t C f.p
theorem kt_fill {t : Tr} {f : Fm} {T : PT} : Kt t (f.fill T) ↔ FmK t f T.pl ∧ Kt t T := by
  unfold Fm.fill FmK Tr.br Tr.br'
  cases f.lt
  · simp only [Bool.false_eq_true, if_false]
    exact ⟨fun ⟨h1, h2, h3, h4, h5⟩ => ⟨⟨h1, h3, h2, h4⟩, h5⟩, fun ⟨⟨h1, h3, h2, h4⟩, h5⟩ => ⟨h1, h2, h3, h4, h5⟩⟩
  · simp only [if_true]
    exact ⟨fun ⟨h1, h2, h3, h4, h5⟩ => ⟨⟨h1, h2, h3, h5⟩, h4⟩, fun ⟨⟨h1, h2, h3, h5⟩, h4⟩ => ⟨h1, h2, h3, h4, h5⟩⟩
theorem kt_plug {t : Tr} : ∀ {C : List Fm} {T : PT}, Kt t (plug C T) ↔ CxK t C T.pl ∧ Kt t T
  | [], T => ⟨fun h => ⟨trivial, h⟩, fun h => h.2⟩
  | f :: C, T => by
    show Kt t (plug C (f.fill T)) ↔ _
    rw [kt_plug, kt_fill, Fm.fill_pl]
    exact ⟨fun ⟨h1, h2, h3⟩ => ⟨⟨h2, h1⟩, h3⟩, fun ⟨⟨h2, h1⟩, h3⟩ => ⟨h1, h2, h3⟩⟩
theorem kt_inners {t : Tr} : ∀ {T : PT}, Kt t T → ∀ p ∈ T.inners, Inn t p
  | .leaf _, _, p, hp => by simp [PT.inners] at hp
  | .node q l r, ⟨h1, _, _, h4, h5⟩, p, hp => by
    rcases List.mem_cons.1 hp with rfl | hp
    · exact h1
    · rcases List.mem_append.1 hp with hp | hp
      · exact kt_inners h4 p hp
      · exact kt_inners h5 p hp
theorem kt_leaves {t : Tr} : ∀ {T : PT}, Kt t T → ∀ q ∈ T.leaves, LfOk t q
  | .leaf p, h, q, hq => by simp [PT.leaves] at hq; subst hq; exact h
  | .node p l r, ⟨_, _, _, h4, h5⟩, q, hq => by
    rcases List.mem_append.1 hq with hq | hq
    · exact kt_leaves h4 q hq
    · exact kt_leaves h5 q hq
theorem kt_lt {t : Tr} {T : PT} (h : Kt t T) : ∀ p ∈ T.nodes, p < t.ns.length := fun p hp => (List.mem_append.1 hp).elim (fun e => (kt_inners h p e).1) (fun e => (kt_leaves h p e).1)
theorem pl_mem (T : PT) : T.pl ∈ T.nodes := by cases T <;> simp [PT.nodes, PT.pl, PT.inners, PT.leaves]
theorem nodes_fill (f : Fm) (T : PT) : (f.fill T).nodes.Perm (f.p :: (f.sib.nodes ++ T.nodes)) := by
  unfold PT.nodes
  refine (List.Perm.append (fill_inners f T) (show (f.fill T).leaves.Perm (f.sib.leaves ++ T.leaves) from ?_)).trans ?_
  · unfold Fm.fill
    cases f.lt
    · simp [PT.leaves]
    · simp only [if_true, PT.leaves]; exact List.perm_append_comm
  · rw [List.cons_append]
    refine List.Perm.cons _ ?_
    rw [List.append_assoc, List.append_assoc]
    refine List.Perm.append_left _ ?_
    rw [← List.append_assoc, ← List.append_assoc]
    exact List.Perm.append_right _ List.perm_append_comm
def cxNodes : List Fm → List Nat
  | [] => []
  | f :: C => f.p :: (f.sib.nodes ++ cxNodes C)
theorem nodes_plug : ∀ (C : List Fm) (T : PT), (plug C T).nodes.Perm (cxNodes C ++ T.nodes)
  | [], T => List.Perm.refl _
  | f :: C, T => by
    refine (nodes_plug C (f.fill T)).trans ?_
    refine (List.Perm.append_left _ (nodes_fill f T)).trans ?_
    simp only [cxNodes, List.cons_append]
    refine (List.perm_middle).trans (List.Perm.cons _ ?_)
    rw [← List.append_assoc]
    exact List.Perm.append_right _ List.perm_append_comm
/-- whom the inner nodes of a shape have as children: all but the first node -/
def kids2 (t : Tr) (p : Nat) : List Nat := [t.kid (t.left p), t.kid (t.right p)]
theorem kids_perm {t : Tr} : ∀ {T : PT}, Kt t T → (T.pl :: T.inners.flatMap (kids2 t)).Perm T.nodes
  | .leaf p, _ => List.Perm.refl _
  | .node p l r, ⟨_, h2, h3, h4, h5⟩ => by
    have i1 := kids_perm h4
    have i2 := kids_perm h5
    show (p :: (kids2 t p ++ (l.inners ++ r.inners).flatMap (kids2 t))).Perm (p :: (l.inners ++ r.inners) ++ (l.leaves ++ r.leaves))
    rw [List.cons_append, List.flatMap_append]
    refine List.Perm.cons _ ?_
    unfold kids2
    rw [h2, h3]
    refine (show ([l.pl, r.pl] ++ (l.inners.flatMap (kids2 t) ++ r.inners.flatMap (kids2 t))).Perm ((l.pl :: l.inners.flatMap (kids2 t)) ++ (r.pl :: r.inners.flatMap (kids2 t))) from ?_).trans ((List.Perm.append i1 i2).trans ?_)
    · simp only [List.cons_append, List.nil_append]
      exact List.Perm.cons _ (List.perm_middle.symm)
    · unfold PT.nodes
      rw [List.append_assoc, List.append_assoc]
      refine List.Perm.append_left _ ?_
      rw [← List.append_assoc, ← List.append_assoc]
      exact List.Perm.append_right _ List.perm_append_comm
theorem nodup_flat {f : Nat → List Nat} : ∀ {l : List Nat}, (l.flatMap f).Nodup → ∀ p ∈ l, ∀ q ∈ l, ∀ x, x ∈ f p → x ∈ f q → p = q
  | [], _, p, hp, _, _, _, _, _ => by cases hp
  | a :: l, h, p, hp, q, hq, x, h1, h2 => by
    rw [List.flatMap_cons, List.nodup_append] at h
    obtain ⟨_, h4, h5⟩ := h
    rcases List.mem_cons.1 hp with e1 | e1
    · rcases List.mem_cons.1 hq with e2 | e2
      · rw [e1, e2]
      · rw [e1] at h1; exact absurd rfl (h5 x h1 x (List.mem_flatMap.2 ⟨q, e2, h2⟩))
    · rcases List.mem_cons.1 hq with e2 | e2
      · rw [e2] at h2; exact absurd rfl (h5 x h2 x (List.mem_flatMap.2 ⟨p, e1, h1⟩))
      · exact nodup_flat h4 p e1 q e2 x h1 h2
theorem nodup_part {f : Nat → List Nat} : ∀ {l : List Nat}, (l.flatMap f).Nodup → ∀ p ∈ l, (f p).Nodup
  | [], _, p, hp => by cases hp
  | a :: l, h, p, hp => by
    rw [List.flatMap_cons, List.nodup_append] at h
    rcases List.mem_cons.1 hp with rfl | hp
    · exact h.1
    · exact nodup_part h.2.1 p hp
/-- each node has one parent -/
theorem one_parent {t : Tr} {T : PT} (hk : Kt t T) (hn : T.nodes.Nodup) {p q : Nat} (hp : p ∈ T.inners) (hq : q ∈ T.inners) :
    (t.kid (t.left p) = t.kid (t.left q) → p = q) ∧ (t.kid (t.right p) = t.kid (t.right q) → p = q) ∧ t.kid (t.left p) ≠ t.kid (t.right q) ∧ t.kid (t.left p) ≠ T.pl ∧ t.kid (t.right p) ≠ T.pl ∧ t.kid (t.left p) ∈ T.nodes ∧ t.kid (t.right p) ∈ T.nodes := by
  have hp2 := kids_perm hk
  have hn2 := hp2.nodup_iff.2 hn
  obtain ⟨h1, h2⟩ := List.nodup_cons.1 hn2
  have ml : ∀ {p}, t.kid (t.left p) ∈ kids2 t p := fun {p} => by simp [kids2]
  have mr : ∀ {p}, t.kid (t.right p) ∈ kids2 t p := fun {p} => by simp [kids2]
  refine ⟨fun e => nodup_flat h2 p hp q hq _ ml (by rw [e]; exact ml), fun e => nodup_flat h2 p hp q hq _ mr (by rw [e]; exact mr), fun e => ?_, fun e => h1 (e ▸ List.mem_flatMap.2 ⟨p, hp, ml⟩), fun e => h1 (e ▸ List.mem_flatMap.2 ⟨p, hp, mr⟩), hp2.mem_iff.1 (List.mem_cons_of_mem _ (List.mem_flatMap.2 ⟨p, hp, ml⟩)), hp2.mem_iff.1 (List.mem_cons_of_mem _ (List.mem_flatMap.2 ⟨p, hp, mr⟩))⟩
  have e2 := nodup_flat h2 p hp q hq _ ml (by rw [e]; exact mr)
  subst e2
  have := nodup_part h2 p hp
  unfold kids2 at this
  simp [e] at this
/-- a key's way -/
inductive OnPath (t : Tr) (k : ByteArray) : Nat → Prop
  | root : OnPath t k 2
  | step {p : Nat} : OnPath t k p → Inn t p → OnPath t k (t.kid (t.toward p k))
theorem kt_leaf_of {t : Tr} {X : PT} (h : Kt t X) (hl : (t.nd X.pl).inner = false) : X = .leaf X.pl := by
  cases X with
  | leaf p => rfl
  | node p l r => have := h.1.2; rw [show (PT.node p l r).pl = p from rfl] at hl; rw [hl] at this; cases this
theorem kt_node_of {t : Tr} {X : PT} (h : Kt t X) (hi : (t.nd X.pl).inner = true) : ∃ l r, X = .node X.pl l r := by
  cases X with
  | leaf p => have := h.2; rw [show (PT.leaf p).pl = p from rfl] at hi; rw [hi] at this; cases this
  | node p l r => exact ⟨l, r, rfl⟩
/-- a key's way, as a place in the shape -/
theorem onpath_ctx {t : Tr} {T : PT} {k : ByteArray} (hk : Kt t T) (h2 : T.pl = 2) {x : Nat} (h : OnPath t k x) : ∃ C X, plug C X = T ∧ X.pl = x ∧ Sides t k C ∧ CxK t C X.pl ∧ Kt t X := by
  induction h with
  | root => exact ⟨[], T, rfl, h2, (fun f hf => by cases hf), trivial, hk⟩
  | @step p hp hi ih =>
    obtain ⟨C, X, h1, h3, h4, h5, h6⟩ := ih
    subst h3
    obtain ⟨l, r, hX⟩ := kt_node_of h6 hi.2
    obtain ⟨q, hq⟩ : ∃ q, q = X.pl := ⟨_, rfl⟩
    rw [← hq] at hX hi ⊢
    rw [hX] at h1 h5 h6
    obtain ⟨_, g2, g3, g4, g5⟩ := h6
    cases ha : (t.nd q).above k with
    | true =>
      have e : t.toward q k = t.left q := by unfold Tr.toward; rw [if_pos ha]
      refine ⟨⟨q, true, r⟩ :: C, l, h1, by rw [e, g2], fun f hf => ?_, ⟨⟨hi, g2, g3, g5⟩, h5⟩, g4⟩
      rcases List.mem_cons.1 hf with rfl | hf
      · exact ha.symm
      · exact h4 f hf
    | false =>
      have e : t.toward q k = t.right q := by unfold Tr.toward; rw [if_neg (by rw [ha]; simp)]
      refine ⟨⟨q, false, l⟩ :: C, r, h1, by rw [e, g3], fun f hf => ?_, ⟨⟨hi, g3, g2, g4⟩, h5⟩, g5⟩
      rcases List.mem_cons.1 hf with rfl | hf
      · exact ha.symm
      · exact h4 f hf
theorem onpath_mem {t : Tr} {T : PT} {k : ByteArray} (hk : Kt t T) (h2 : T.pl = 2) {x : Nat} (h : OnPath t k x) : x ∈ T.nodes := by
  obtain ⟨C, X, h1, h3, _⟩ := onpath_ctx hk h2 h
  rw [← h1, (nodes_plug C X).mem_iff, ← h3]
  exact List.mem_append_right _ (pl_mem X)
theorem inner_mem {t : Tr} {T : PT} (hk : Kt t T) {x : Nat} (hx : x ∈ T.nodes) (hi : (t.nd x).inner = true) : x ∈ T.inners := by
  rcases List.mem_append.1 hx with h | h
  · exact h
  · have := (kt_leaves hk x h).2; rw [hi] at this; cases this
theorem leaf_mem {t : Tr} {T : PT} (hk : Kt t T) {x : Nat} (hx : x ∈ T.nodes) (hi : (t.nd x).inner = false) : x ∈ T.leaves := by
  rcases List.mem_append.1 hx with h | h
  · have := (kt_inners hk x h).2; rw [hi] at this; cases this
  · exact h
/-- at its end stands the leaf that is looked for -/
theorem onpath_leaf {t : Tr} {T : PT} {k : ByteArray} (hk : Kt t T) (h2 : T.pl = 2) {x : Nat} (h : OnPath t k x) (hl : (t.nd x).inner = false) : look t k T = x := by
  obtain ⟨C, X, h1, h3, h4, _, h6⟩ := onpath_ctx hk h2 h
  subst h3
  rw [← h1, (look_plug t k C X).1 h4, kt_leaf_of h6 hl]
  rfl
end Go.Proofs.Ytmhiolhgofackaa
namespace Go.Proofs.Ytmhiolhgofackaa
open Go.RowKit
set_option linter.unusedVariables false
set_option linter.unusedSimpArgs false

def Tr.wd (t : Tr) (p : Nat) : Int := t.ms.at (t.word p)
/-- how often a word was turned: it never falls -/
def rk (x : Int) : Int := x / 4 * 2 + (if x % 4 = 0 then 1 else 0)
def Tr.cell0 (t : Tr) (o : Wk) : Nat := t.kid (t.toward o.at_ o.key)
def WkAct (t : Tr) (i : Nat) : Prop := t.wd (t.wk i).at_ = packW (t.wk i).state i
def Trn (t : Tr) (T : PT) (i : Nat) : Prop := t.cell0 (t.wk i) ≠ (t.wk i).old ∧ (t.wk i).old ∉ T.nodes
structure FreshN (t : Tr) (T : PT) (i q old : Nat) (key : ByteArray) (v : Int) : Prop where
  inn : Inn t q
  off : q ∉ T.nodes ∧ q - 2 ∉ T.nodes ∧ q - 1 ∉ T.nodes
  wd : t.wd q = 0
  kl : t.kid (t.left q) = q - 2
  kr : t.kid (t.right q) = q - 1
  l0 : LfOk t (q - 2) ∧ LfOk t (q - 1)
  n0 : t.nd (q - 2) = lowN t old key v
  n1 : t.nd (q - 1) = highN t old key v
  n2 : t.nd q = ⟨true, (highN t old key v).fin, (highN t old key v).key, 0, (q : Int) - 2⟩
  olds : ∀ j, OI t j → (t.wk j).old ≠ q ∧ (t.wk j).old ≠ q - 2 ∧ (t.wk j).old ≠ q - 1
  one : ∀ j, OI t j → (t.wk j).next = some q → j = i
structure WkC (t : Tr) (T : PT) (i : Nat) : Prop where
  on : (t.wk i).at_ ∈ T.inners → OnPath t (t.wk i).key (t.wk i).at_
  rk : 2 * (i : Int) ≤ rk (t.wd (t.wk i).at_)
def InsOk (t : Tr) (T : PT) (i : Nat) : Prop := WkC t T i ∧ ∃ q v, (t.wk i).next = some q ∧ (Trn t T i ∨ (WkAct t i ∧ t.cell0 (t.wk i) = (t.wk i).old ∧ LfOk t (t.wk i).old ∧ (t.nd (t.wk i).old).has (t.wk i).key = false ∧ FreshN t T i q (t.wk i).old (t.wk i).key v))
structure DelC (t : Tr) (i : Nat) : Prop where
  clean : (t.wk i).seen % 4 = 0
  low : (t.wk i).seen / 4 < i
  rise : rk (t.wk i).seen ≤ rk (t.wd (t.wk i).old)
def DelOk (t : Tr) (T : PT) (i : Nat) : Prop := WkC t T i ∧ DelC t i ∧ (∃ l, LfOk t l ∧ (t.nd l).has (t.wk i).key = true ∧ (t.wd (t.wk i).old = (t.wk i).seen ∨ t.wd (t.wk i).old = packW 3 i → t.kid (t.toward (t.wk i).old (t.wk i).key) = l)) ∧
  ((WkAct t i ∧ t.cell0 (t.wk i) = (t.wk i).old) ∨ (t.wd (t.wk i).old = packW 3 i ∧ Trn t T i) ∨ (t.wd (t.wk i).old ≠ packW 3 i ∧ rk (t.wk i).seen < rk (t.wd (t.wk i).old)))
def Fresh (t : Tr) (p : Nat) : Prop := ∃ i, OI t i ∧ (t.wk i).state = 1 ∧ (t.wk i).next = some p ∧ WkAct t i ∧ t.cell0 (t.wk i) = (t.wk i).old
abbrev whole (L : PT) : PT := .node 2 L (.leaf 1)
structure LI (t : Tr) (L : PT) : Prop where
  kt : Kt t (whole L)
  nodup : (whole L).nodes.Nodup
  ord : Ord t (whole L)
  flag : ∀ p, Inn t p → t.wd p % 4 = 1 ∨ t.wd p % 4 = 2 → 1 ≤ t.wd p / 4 ∧ (t.wk (t.wd p / 4).toNat).at_ = p ∧ (t.wk (t.wd p / 4).toNat).state = t.wd p % 4
  goes : ∀ p, Inn t p → t.wd p % 4 = 3 → 1 ≤ t.wd p / 4 ∧ (t.wk (t.wd p / 4).toNat).state = 2 ∧ (t.wk (t.wd p / 4).toNat).old = p
  sit : ∀ p, Inn t p → p ∈ (whole L).inners ∨ t.wd p % 4 = 3 ∨ Fresh t p
  wk1 : ∀ i, OI t i → (t.wk i).state = 1 → InsOk t (whole L) i
  wk2 : ∀ i, OI t i → (t.wk i).state = 2 → DelOk t (whole L) i
/-- one word was turned; nodes and works may have come -/
structure Wc (t t' : Tr) (p0 : Nat) : Prop where
  gr : Gr t t'
  kid : ∀ p, Inn t p → t'.kid (t.left p) = t.kid (t.left p) ∧ t'.kid (t.right p) = t.kid (t.right p)
  off : ∀ p, Inn t p → p ≠ p0 → t'.wd p = t.wd p
  rise : rk (t.wd p0) < rk (t'.wd p0)
/-- works that came have to do with the tree -/
structure Wn (t t' : Tr) (T : PT) : Prop where
  old : ∀ j, OI t' j → OI t j ∨ (t'.wk j).old ∈ T.nodes
  next : ∀ j, OI t' j → OI t j ∨ ∀ q, (t'.wk j).next = some q → ¬ q < t.ns.length
section
variable {t t' : Tr} {L : PT} {p0 : Nat}
theorem LI.fresh_zero (h : LI t L) {p : Nat} (hf : Fresh t p) : t.wd p = 0 ∧ p ∉ (whole L).nodes := by
  obtain ⟨i, h1, h2, h3, h4, h5⟩ := hf
  obtain ⟨_, q, v, hq, hr⟩ := h.wk1 i h1 h2
  rw [h3] at hq
  simp only [Option.some.injEq] at hq
  subst hq
  rcases hr with hr | hr
  · exact absurd h5 hr.1
  · exact ⟨hr.2.2.2.2.wd, hr.2.2.2.2.off.1⟩
theorem LI.flag_in (h : LI t L) {p : Nat} (hp : Inn t p) (hw : t.wd p % 4 = 1 ∨ t.wd p % 4 = 2) : p ∈ (whole L).inners := by
  rcases h.sit p hp with e | e | e
  · exact e
  · omega
  · have := (h.fresh_zero e).1
    rw [this] at hw
    omega
theorem Wc.gl (w : Wc t t' p0) {p : Nat} (hp : Inn t p) : t'.left p = t.left p ∧ t'.right p = t.right p := ⟨w.gr.left hp, w.gr.right hp⟩
theorem Wc.toward (w : Wc t t' p0) {p : Nat} (hp : Inn t p) (k : ByteArray) : t'.kid (t'.toward p k) = t.kid (t.toward p k) := by
  unfold Tr.toward
  rw [w.gr.nd p hp.1, (w.gl hp).1, (w.gl hp).2]
  split
  · exact (w.kid p hp).1
  · exact (w.kid p hp).2
theorem Wc.kt (w : Wc t t' p0) : ∀ {T : PT}, Kt t T → Kt t' T
  | .leaf p, h => ⟨Nat.lt_of_lt_of_le h.1 w.gr.nl, by rw [w.gr.nd p h.1]; exact h.2⟩
  | .node p l r, ⟨h1, h2, h3, h4, h5⟩ => ⟨w.gr.inn h1, by rw [(w.gl h1).1, (w.kid p h1).1]; exact h2, by rw [(w.gl h1).2, (w.kid p h1).2]; exact h3, w.kt h4, w.kt h5⟩
theorem Wc.path (w : Wc t t' p0) {k : ByteArray} {x : Nat} (h : OnPath t k x) : OnPath t' k x := by
  induction h with
  | root => exact .root
  | step hp hi ih => rw [← w.toward hi k]; exact .step ih (w.gr.inn hi)
theorem Wc.up (w : Wc t t' p0) {p : Nat} (hp : Inn t p) : rk (t.wd p) ≤ rk (t'.wd p) := by
  by_cases e : p = p0
  · rw [e]; have := w.rise; omega
  · rw [w.off p hp e]; exact Int.le_refl _
theorem Wc.lf (w : Wc t t' p0) {l : Nat} (h : LfOk t l) : LfOk t' l := ⟨Nat.lt_of_lt_of_le h.1 w.gr.nl, by rw [w.gr.nd l h.1]; exact h.2⟩
theorem Wc.wkc (w : Wc t t' p0) {T : PT} {i : Nat} (hi : OI t i) (ha : Inn t (t.wk i).at_) (h : WkC t T i) : WkC t' T i := by
  have e := w.gr.wk i hi.1 hi.2
  exact ⟨by rw [e]; exact fun hm => w.path (h.on hm), by rw [e]; have := h.rk; have := w.up ha; omega⟩
theorem Wc.trn (w : Wc t t' p0) {T : PT} {i : Nat} (hi : OI t i) (ha : Inn t (t.wk i).at_) (h : Trn t T i) : Trn t' T i := by
  have e := w.gr.wk i hi.1 hi.2
  unfold Trn Tr.cell0 at h ⊢
  rw [e, w.toward ha]
  exact h
theorem Wc.fresh (w : Wc t t' p0) {T : PT} (n : Wn t t' T) {i q old : Nat} {key : ByteArray} {v : Int} (hp0 : p0 ∈ T.inners) (ho : old < t.ns.length) (h : FreshN t T i q old key v) : FreshN t' T i q old key v := by
  have hne : q ≠ p0 := fun e => h.off.1 (by rw [e]; exact List.mem_append_left _ hp0)
  have e0 : lowN t' old key v = lowN t old key v := by unfold lowN; rw [w.gr.nd old ho]
  have e1 : highN t' old key v = highN t old key v := by unfold highN; rw [w.gr.nd old ho]
  refine ⟨w.gr.inn h.inn, h.off, by rw [w.off q h.inn hne]; exact h.wd, by rw [(w.gl h.inn).1, (w.kid q h.inn).1]; exact h.kl, by rw [(w.gl h.inn).2, (w.kid q h.inn).2]; exact h.kr, ⟨w.lf h.l0.1, w.lf h.l0.2⟩,
    by rw [w.gr.nd _ h.l0.1.1, e0]; exact h.n0, by rw [w.gr.nd _ h.l0.2.1, e1]; exact h.n1, by rw [w.gr.nd _ h.inn.1, e1]; exact h.n2, fun j hj => ?_, fun j hj hq => ?_⟩
  · rcases n.old j hj with hj' | hj'
    · rw [w.gr.wk j hj'.1 hj'.2]; exact h.olds j hj'
    · exact ⟨fun e => h.off.1 (e ▸ hj'), fun e => h.off.2.1 (e ▸ hj'), fun e => h.off.2.2 (e ▸ hj')⟩
  · rcases n.next j hj with hj' | hj'
    · rw [w.gr.wk j hj'.1 hj'.2] at hq; exact h.one j hj' hq
    · exact absurd h.inn.1 (hj' q hq)
theorem Wc.ins (w : Wc t t' p0) {T : PT} (n : Wn t t' T) {i : Nat} (hp0 : p0 ∈ T.inners) (hi : OI t i) (hwk : WkT t (t.wk i)) (hne : (t.wk i).at_ = p0 → WkAct t i → Trn t T i) (h : InsOk t T i) : InsOk t' T i := by
  have e := w.gr.wk i hi.1 hi.2
  obtain ⟨h1, q, v, h2, h3⟩ := h
  refine ⟨w.wkc hi hwk.at_ h1, q, v, by rw [e]; exact h2, ?_⟩
  rcases h3 with h3 | ⟨g1, g2, g3, g4, g5⟩
  · exact Or.inl (w.trn hi hwk.at_ h3)
  · by_cases hap : (t.wk i).at_ = p0
    · exact Or.inl (w.trn hi hwk.at_ (hne hap g1))
    refine Or.inr ⟨?_, ?_, ?_, ?_, ?_⟩
    · unfold WkAct at g1 ⊢
      rw [e, w.off _ hwk.at_ hap]; exact g1
    · unfold Tr.cell0 at g2 ⊢
      rw [e, w.toward hwk.at_]; exact g2
    · rw [e]; exact w.lf g3
    · rw [e, w.gr.nd _ hwk.old]; exact g4
    · rw [e]; exact w.fresh n hp0 hwk.old g5
theorem Wc.del (w : Wc t t' p0) {T : PT} {i : Nat} (hi : OI t i) (hwk : WkT t (t.wk i)) (hst : (t.wk i).state = 2) (hne : (t.wk i).at_ = p0 → WkAct t i → (t.wd (t.wk i).old = packW 3 i ∧ Trn t T i) ∨ (t.wd (t.wk i).old ≠ packW 3 i ∧ rk (t.wk i).seen < rk (t.wd (t.wk i).old))) (h3 : t.wd p0 % 4 ≠ 3)
    (hm : (t.wk i).old = p0 → t'.wd p0 = packW 3 i → t.wd p0 = (t.wk i).seen) (h : DelOk t T i) (hib : i ≤ 1000000000) : DelOk t' T i := by
  have e := w.gr.wk i hi.1 hi.2
  obtain ⟨h1, ⟨c1, c2, c3⟩, ⟨l, l1, l2, l3⟩, h4⟩ := h
  have hold : Inn t (t.wk i).old := (hwk.rem hst).1
  have hp3 : packW 3 (i : Int) % 4 = 3 := (packW_div (by omega) hib).2
  refine ⟨w.wkc hi hwk.at_ h1, ⟨by rw [e]; exact c1, by rw [e]; exact c2, by rw [e]; have := w.up hold; omega⟩, ⟨l, w.lf l1, by rw [e, w.gr.nd l l1.1]; exact l2, ?_⟩, ?_⟩
  · rw [e, w.toward hold]
    intro hx
    by_cases e0 : (t.wk i).old = p0
    · rw [e0] at hx c3
      have hr := w.rise
      rcases hx with hx | hx
      · rw [hx] at hr; omega
      · exact l3 (Or.inl (by rw [e0]; exact hm e0 hx))
    · rw [w.off _ hold e0] at hx; exact l3 hx
  · have h4 : ((WkAct t i ∧ t.cell0 (t.wk i) = (t.wk i).old) ∧ (t.wk i).at_ ≠ p0) ∨ (t.wd (t.wk i).old = packW 3 i ∧ Trn t T i) ∨ (t.wd (t.wk i).old ≠ packW 3 i ∧ rk (t.wk i).seen < rk (t.wd (t.wk i).old)) := by
      rcases h4 with g | g
      · by_cases hap : (t.wk i).at_ = p0
        · exact Or.inr (hne hap g.1)
        · exact Or.inl ⟨g, hap⟩
      · exact Or.inr g
    rcases h4 with ⟨⟨g1, g2⟩, hap⟩ | ⟨g1, g2⟩ | ⟨g1, g2⟩
    · refine Or.inl ⟨?_, ?_⟩
      · unfold WkAct at g1 ⊢
        rw [e, w.off _ hwk.at_ hap]; exact g1
      · unfold Tr.cell0 at g2 ⊢
        rw [e, w.toward hwk.at_]; exact g2
    · refine Or.inr (Or.inl ⟨?_, w.trn hi hwk.at_ g2⟩)
      rw [e]
      by_cases e0 : (t.wk i).old = p0
      · rw [e0] at g1; rw [g1] at h3; exact absurd hp3 h3
      · rw [w.off _ hold e0]; exact g1
    · refine Or.inr (Or.inr ⟨?_, ?_⟩)
      · rw [e]
        by_cases e0 : (t.wk i).old = p0
        · rw [e0]
          intro hx
          have := hm e0 hx
          rw [e0, this] at g2
          omega
        · rw [w.off _ hold e0]; exact g1
      · rw [e]; have := w.up hold; omega
theorem LI.wc (h : LI t L) (hti : TI t) (hW : t.ws.length ≤ 900000000) (w : Wc t t' p0) (n : Wn t t' (whole L)) (hp0 : p0 ∈ (whole L).inners) (h3 : t.wd p0 % 4 ≠ 3)
    (hm : ∀ i, OI t i → (t.wk i).state = 2 → (t.wk i).old = p0 → t'.wd p0 = packW 3 i → t.wd p0 = (t.wk i).seen)
    (hact : ∀ i, OI t i → (t.wk i).at_ = p0 → WkAct t i → ((t.wk i).state = 1 → Trn t (whole L) i) ∧ ((t.wk i).state = 2 → (t.wd (t.wk i).old = packW 3 i ∧ Trn t (whole L) i) ∨ (t.wd (t.wk i).old ≠ packW 3 i ∧ rk (t.wk i).seen < rk (t.wd (t.wk i).old))))
    (hf : t'.wd p0 % 4 = 1 ∨ t'.wd p0 % 4 = 2 → 1 ≤ t'.wd p0 / 4 ∧ (t'.wk (t'.wd p0 / 4).toNat).at_ = p0 ∧ (t'.wk (t'.wd p0 / 4).toNat).state = t'.wd p0 % 4)
    (hg : t'.wd p0 % 4 = 3 → 1 ≤ t'.wd p0 / 4 ∧ (t'.wk (t'.wd p0 / 4).toNat).state = 2 ∧ (t'.wk (t'.wd p0 / 4).toNat).old = p0)
    (hnew : ∀ p, Inn t' p → Inn t p ∨ (Fresh t' p ∧ t'.wd p = 0))
    (hw : ∀ i, OI t' i → OI t i ∨ (((t'.wk i).state = 1 → InsOk t' (whole L) i) ∧ ((t'.wk i).state = 2 → DelOk t' (whole L) i))) : LI t' L := by
  have hlt := kt_lt h.kt
  have hwn : ∀ p, Inn t p → p ≠ p0 → 1 ≤ t.wd p / 4 → t'.wk (t.wd p / 4).toNat = t.wk (t.wd p / 4).toNat := fun p hp _ h1 => by
    have := (hti.word p hp).1
    have e : t.ms.at (t.word p) = t.wd p := rfl
    rw [e] at this
    exact w.gr.wk _ (by omega) (by omega)
  refine ⟨w.kt h.kt, h.nodup, ord_nd (fun p hp => w.gr.nd p (hlt p (List.mem_append.2 hp))) h.ord, fun p hp hx => ?_, fun p hp hx => ?_, fun p hp => ?_, fun i hi hs => ?_, fun i hi hs => ?_⟩
  · rcases hnew p hp with hp' | ⟨_, hz⟩
    · by_cases e : p = p0
      · subst e; exact hf hx
      · rw [w.off p hp' e] at hx ⊢
        obtain ⟨g1, g2, g3⟩ := h.flag p hp' hx
        rw [hwn p hp' e g1]; exact ⟨g1, g2, g3⟩
    · rw [hz] at hx; omega
  · rcases hnew p hp with hp' | ⟨_, hz⟩
    · by_cases e : p = p0
      · subst e; exact hg hx
      · rw [w.off p hp' e] at hx ⊢
        obtain ⟨g1, g2, g3⟩ := h.goes p hp' hx
        rw [hwn p hp' e g1]; exact ⟨g1, g2, g3⟩
    · rw [hz] at hx; omega
  · rcases hnew p hp with hp' | ⟨hfr, _⟩
    · rcases h.sit p hp' with e | e | e
      · exact Or.inl e
      · by_cases e0 : p = p0
        · rw [e0] at e; exact absurd e h3
        · rw [w.off p hp' e0]; exact Or.inr (Or.inl e)
      · right; right
        obtain ⟨i, f1, f2, f3, f4, f5⟩ := e
        have hwk := hti.wks i f1.1 f1.2
        have e1 := w.gr.wk i f1.1 f1.2
        have hne : (t.wk i).at_ ≠ p0 := fun e0 => ((hact i f1 e0 f4).1 f2).1 f5
        refine ⟨i, ⟨f1.1, Nat.le_trans f1.2 w.gr.wl⟩, by rw [e1]; exact f2, by rw [e1]; exact f3, ?_, ?_⟩
        · unfold WkAct at f4 ⊢
          rw [e1, w.off _ hwk.at_ hne]; exact f4
        · unfold Tr.cell0 at f5 ⊢
          rw [e1, w.toward hwk.at_]; exact f5
    · exact Or.inr (Or.inr hfr)
  · rcases hw i hi with hi' | hn
    · have e1 := w.gr.wk i hi'.1 hi'.2
      rw [e1] at hs
      have hwk := hti.wks i hi'.1 hi'.2
      exact w.ins n hp0 hi' hwk (fun a b => (hact i hi' a b).1 hs) (h.wk1 i hi' hs)
    · exact hn.1 hs
  · rcases hw i hi with hi' | hn
    · have e1 := w.gr.wk i hi'.1 hi'.2
      rw [e1] at hs
      have hwk := hti.wks i hi'.1 hi'.2
      exact w.del hi' hwk hs (fun a b => (hact i hi' a b).2 hs) h3 (hm i hi' hs) (h.wk2 i hi' hs) (by have := hi'.2; omega)
    · exact hn.2 hs
end
end Go.Proofs.Ytmhiolhgofackaa
namespace Go.Proofs.Ytmhiolhgofackaa
open Go.RowKit
set_option linter.unusedVariables false
set_option linter.unusedSimpArgs false

structure Tn (t t' : Tr) (b : Br) (nx : Nat) : Prop where
  ns : t'.ns = t.ns
  ws : t'.ws = t.ws
  wd : ∀ p, Inn t p → t'.wd p = t.wd p
  on : t'.kid b = nx
  off : ∀ p, Inn t p → ∀ c, c = t.left p ∨ c = t.right p → c ≠ b → t'.kid c = t.kid c
section
variable {t t' : Tr} {b : Br} {nx : Nat}
theorem Tn.nd (n : Tn t t' b nx) (p : Nat) : t'.nd p = t.nd p := by unfold Tr.nd; rw [n.ns]
theorem Tn.wk (n : Tn t t' b nx) (i : Nat) : t'.wk i = t.wk i := by unfold Tr.wk; rw [n.ws]
theorem Tn.left (n : Tn t t' b nx) (p : Nat) : t'.left p = t.left p := by unfold Tr.left; rw [n.nd]
theorem Tn.right (n : Tn t t' b nx) (p : Nat) : t'.right p = t.right p := by unfold Tr.right; rw [n.nd]
theorem Tn.toward (n : Tn t t' b nx) (p : Nat) (k : ByteArray) : t'.toward p k = t.toward p k := by unfold Tr.toward; rw [n.nd, n.left, n.right]
theorem Tn.inn (n : Tn t t' b nx) (p : Nat) : Inn t' p ↔ Inn t p := by unfold Inn; rw [n.ns, n.nd]
theorem Tn.lf (n : Tn t t' b nx) (p : Nat) : LfOk t' p ↔ LfOk t p := by unfold LfOk; rw [n.ns, n.nd]
theorem Tn.oi (n : Tn t t' b nx) (i : Nat) : OI t' i ↔ OI t i := by unfold OI; rw [n.ws]
theorem br_ne (h : TI t) {p a : Nat} (hp : Inn t p) (ha : Inn t a) (k : ByteArray) (hne : p ≠ a) : t.left p ≠ t.toward a k ∧ t.right p ≠ t.toward a k := by
  have h1 := (h.inn p hp).1
  have h2 := (h.inn a ha).1
  have e : t.toward a k = t.left a ∨ t.toward a k = t.right a := toward_or t a k
  rw [h.leftE hp, h.rightE hp]
  rw [h.leftE ha, h.rightE ha] at e
  refine ⟨fun x => ?_, fun x => ?_⟩ <;> rcases e with e | e <;> rw [e] at x <;> simp only [Br.mk.injEq] at x <;> omega
theorem tow_ne (h : TI t) {p a : Nat} (hp : Inn t p) (ha : Inn t a) (k k' : ByteArray) (hne : p ≠ a) : t.toward p k ≠ t.toward a k' := by
  obtain ⟨h1, h2⟩ := br_ne h hp ha k' hne
  rcases toward_or t p k with e | e
  · rw [e]; exact h1
  · rw [e]; exact h2
theorem lr_ne (h : TI t) {a : Nat} (ha : Inn t a) : t.left a ≠ t.right a := by
  rw [h.leftE ha, h.rightE ha]
  intro x
  simp only [Br.mk.injEq] at x
  omega
theorem tn_of (h : TI t) {a : Nat} (ha : Inn t a) (k : ByteArray) {old nx : Nat} (ho : old < t.ns.length) (hn : nx < t.ns.length) (hl : t.ns.length ≤ 65536) (hc : t.ms.casB (t.toward a k).cell (u64 (old - (t.toward a k).first)) = true) : Tn t (t.turn (t.toward a k) old nx) (t.toward a k) nx ∧ t.kid (t.toward a k) = old := by
  have hx : t.ms.at (t.toward a k).cell = u64 (old - (t.toward a k).first) := by
    unfold MS.casB at hc
    rw [Bool.and_eq_true] at hc
    exact of_decide_eq_true hc.2
  refine ⟨⟨rfl, rfl, fun p hp => ?_, ?_, fun p hp c hcc hne => ?_⟩, kid_new (by omega) hx⟩
  · show (t.ms.cas _ _ _).at (t.word p) = t.ms.at (t.word p)
    refine cas_off (fun e => ?_)
    rcases toward_or t a k with e2 | e2
    · rw [e2] at e; exact h.left_word ha hp e.symm
    · rw [e2] at e; exact h.right_word ha hp e.symm
  · refine kid_new (by omega) ?_
    show (t.ms.cas _ _ _).at _ = _
    rw [MS.at_cas, if_pos ⟨rfl, hc⟩]
  · refine kid_at (m := t.ms.cas (t.toward a k).cell (u64 (old - (t.toward a k).first)) (u64 (nx - (t.toward a k).first))) (cas_off (fun e => hne ?_))
    have p1 := (h.inn p hp).1
    have a1 := (h.inn a ha).1
    rcases toward_or t a k with e2 | e2 <;> rw [e2] at e ⊢ <;> rcases hcc with e3 | e3 <;> rw [e3] at e ⊢
    · rw [h.leftE hp, h.leftE ha] at e ⊢; dsimp only at e; have : p = a := by omega
      rw [this]
    · rw [h.rightE hp, h.leftE ha] at e; dsimp only at e; omega
    · rw [h.leftE hp, h.rightE ha] at e; dsimp only at e; omega
    · rw [h.rightE hp, h.rightE ha] at e ⊢; dsimp only at e; have : p = a := by omega
      rw [this]
theorem kt_tn (n : Tn t t' b nx) : ∀ {X : PT}, Kt t X → (∀ p ∈ X.inners, t.left p ≠ b ∧ t.right p ≠ b) → Kt t' X
  | .leaf p, h, _ => (n.lf p).2 h
  | .node p l r, ⟨h1, h2, h3, h4, h5⟩, hb => by
    obtain ⟨b1, b2⟩ := hb p (by simp [PT.inners])
    exact ⟨(n.inn p).2 h1, by rw [n.left, n.off p h1 _ (Or.inl rfl) b1]; exact h2, by rw [n.right, n.off p h1 _ (Or.inr rfl) b2]; exact h3, kt_tn n h4 (fun q hq => hb q (by simp [PT.inners, hq])), kt_tn n h5 (fun q hq => hb q (by simp [PT.inners, hq]))⟩
theorem cxk_tn (n : Tn t t' b nx) : ∀ {C : List Fm} {h : Nat}, CxK t C h → (∀ p ∈ cxNodes C, Inn t p → t.left p ≠ b ∧ t.right p ≠ b) → CxK t' C h
  | [], _, _, _ => trivial
  | f :: C, x, ⟨⟨h1, h2, h3, h4⟩, h5⟩, hb => by
    obtain ⟨b1, b2⟩ := hb f.p (by simp [cxNodes]) h1
    have e1 : t'.br f = t.br f := by unfold Tr.br; rw [n.left, n.right]
    have e2 : t'.br' f = t.br' f := by unfold Tr.br'; rw [n.left, n.right]
    have o1 : t.br f = t.left f.p ∨ t.br f = t.right f.p := by unfold Tr.br; split; exact Or.inl rfl; exact Or.inr rfl
    have o2 : t.br' f = t.left f.p ∨ t.br' f = t.right f.p := by unfold Tr.br'; split; exact Or.inr rfl; exact Or.inl rfl
    refine ⟨⟨(n.inn f.p).2 h1, ?_, ?_, kt_tn n h4 (fun q hq => hb q (by simp [cxNodes, PT.nodes, hq]) (kt_inners h4 q hq))⟩, cxk_tn n h5 (fun q hq => hb q (by simp [cxNodes, hq]))⟩
    · rw [e1, n.off f.p h1 _ o1 (by rcases o1 with e | e <;> rw [e] <;> assumption)]; exact h2
    · rw [e2, n.off f.p h1 _ o2 (by rcases o2 with e | e <;> rw [e] <;> assumption)]; exact h3
/-- a step of a key's way, as a place in the shape -/
theorem onpath_step {T : PT} {k : ByteArray} (hk : Kt t T) (h2 : T.pl = 2) {p : Nat} (h : OnPath t k p) (hi : Inn t p) : ∃ D sib X, plug (⟨p, (t.nd p).above k, sib⟩ :: D) X = T ∧ X.pl = t.kid (t.toward p k) ∧ Sides t k (⟨p, (t.nd p).above k, sib⟩ :: D) ∧ CxK t (⟨p, (t.nd p).above k, sib⟩ :: D) X.pl ∧ Kt t X := by
  obtain ⟨C, X, h1, h3, h4, h5, h6⟩ := onpath_ctx hk h2 h
  subst h3
  obtain ⟨l, r, hX⟩ := kt_node_of h6 hi.2
  obtain ⟨q, hq⟩ : ∃ q, q = X.pl := ⟨_, rfl⟩
  rw [← hq] at hX hi ⊢
  rw [hX] at h1 h5 h6
  obtain ⟨_, g2, g3, g4, g5⟩ := h6
  cases ha : (t.nd q).above k with
  | true =>
    have e : t.toward q k = t.left q := by unfold Tr.toward; rw [if_pos ha]
    refine ⟨C, r, l, h1, by rw [e, g2], fun f hf => ?_, ⟨⟨hi, g2, g3, g5⟩, h5⟩, g4⟩
    rcases List.mem_cons.1 hf with rfl | hf
    · exact ha.symm
    · exact h4 f hf
  | false =>
    have e : t.toward q k = t.right q := by unfold Tr.toward; rw [if_neg (by rw [ha]; simp)]
    refine ⟨C, l, r, h1, by rw [e, g3], fun f hf => ?_, ⟨⟨hi, g3, g2, g4⟩, h5⟩, g5⟩
    rcases List.mem_cons.1 hf with rfl | hf
    · exact ha.symm
    · exact h4 f hf
theorem plug_whole {k : ByteArray} (h2 : (t.nd 2).above k = true) : ∀ {D : List Fm} {f : Fm} {X : PT} {L : PT}, plug (f :: D) X = whole L → Sides t k (f :: D) → ∀ Y, ∃ L', plug (f :: D) Y = whole L'
  | [], f, X, L, hp, hs, Y => by
    have hf := hs f (by simp)
    have hp' : f.fill X = .node 2 L (.leaf 1) := hp
    show ∃ L', f.fill Y = .node 2 L' (.leaf 1)
    unfold Fm.fill at hp' ⊢
    cases hl : f.lt with
    | false =>
      rw [hl] at hp' hf
      simp only [Bool.false_eq_true, if_false, PT.node.injEq] at hp'
      rw [hp'.1, h2] at hf; cases hf
    | true =>
      rw [hl] at hp'
      simp only [if_true, PT.node.injEq] at hp'
      rw [if_pos rfl, hp'.1, hp'.2.2]
      exact ⟨Y, rfl⟩
  | g :: D, f, X, L, hp, hs, Y => plug_whole h2 (D := D) (f := g) (X := f.fill X) hp (fun x hx => hs x (List.mem_cons_of_mem _ hx)) (f.fill Y)
end
end Go.Proofs.Ytmhiolhgofackaa
namespace Go.Proofs.Ytmhiolhgofackaa
open Go.RowKit
set_option linter.unusedVariables false
set_option linter.unusedSimpArgs false

section
variable {t t' : Tr} {L L' : PT} {b : Br} {nx : Nat}
theorem act_one (hti : TI t) (hW : t.ws.length ≤ 900000000) {i j : Nat} (hi : OI t i) (hj : OI t j) (ai : WkAct t i) (aj : WkAct t j) (e : (t.wk i).at_ = (t.wk j).at_) : i = j := by
  unfold WkAct at ai aj
  rw [e, aj] at ai
  have si := (hti.wks i hi.1 hi.2).kind
  have sj := (hti.wks j hj.1 hj.2).kind
  have h1 := packW_div (s := (t.wk i).state) (i := i) (by rcases si with ⟨h, _⟩ | ⟨h, _⟩ <;> omega) (by have := hi.2; omega)
  have h2 := packW_div (s := (t.wk j).state) (i := j) (by rcases sj with ⟨h, _⟩ | ⟨h, _⟩ <;> omega) (by have := hj.2; omega)
  rw [ai] at h2
  omega
theorem Tn.trn (hti : TI t) (n : Tn t t' b nx) {a : Nat} {k : ByteArray} (ha : Inn t a) (hb : b = t.toward a k) {T T' : PT} {j : Nat} (hj : OI t j) (hT : ∀ x ∈ T'.nodes, x ∈ T.nodes ∨ (t.wk j).old ≠ x) (hnx : nx ≠ (t.wk j).old) (h : Trn t T j) : Trn t' T' j := by
  have hat := (hti.wks j hj.1 hj.2).at_
  unfold Trn Tr.cell0 at h ⊢
  rw [n.wk, n.toward]
  refine ⟨?_, fun hm => ?_⟩
  · by_cases e : t.toward (t.wk j).at_ (t.wk j).key = b
    · rw [e, n.on]; exact hnx
    · rw [n.off _ hat _ (toward_or t _ _) e]; exact h.1
  · rcases hT _ hm with e | e
    · exact h.2 e
    · exact e rfl
theorem LI.turned (h : LI t L) (hti : TI t) (hW : t.ws.length ≤ 900000000) {i : Nat} (hi : OI t i) (hact : WkAct t i) (hb : b = t.toward (t.wk i).at_ (t.wk i).key) (n : Tn t t' b nx) (S : List Nat)
    (hkt : Kt t' (whole L')) (hnd : (whole L').nodes.Nodup) (hord : Ord t' (whole L'))
    (hin : ∀ p ∈ (whole L).inners, p ∈ (whole L').inners ∨ t.wd p % 4 = 3)
    (hnodes : ∀ x ∈ (whole L').nodes, x ∈ (whole L).nodes ∨ x ∈ S) (hS : ∀ j, OI t j → (t.wk j).old ∉ S)
    (hSq : ∀ j q', OI t j → j ≠ i → (t.wk j).next = some q' → Inn t q' → q' ∉ S ∧ q' - 2 ∉ S ∧ q' - 1 ∉ S)
    (hinn : ∀ p ∈ (whole L').inners, p ∈ (whole L).inners ∨ t.wd p = 0)
    (hon : ∀ k x, OnPath t k x → x ∈ (whole L').inners → OnPath t' k x)
    (hnx : ∀ j, OI t j → Trn t (whole L) j → nx ≠ (t.wk j).old)
    (h1 : (t.wk i).state = 1 → InsOk t' (whole L') i) (h2 : (t.wk i).state = 2 → DelOk t' (whole L') i)
    (hfi : ∀ p, (t.wk i).state = 1 → (t.wk i).next = some p → p ∈ (whole L').inners) : LI t' L' := by
  have hai := (hti.wks i hi.1 hi.2).at_
  have cell : ∀ j, OI t j → j ≠ i → WkAct t j → t'.cell0 (t.wk j) = t.cell0 (t.wk j) := fun j hj hji aj => by
    have haj := (hti.wks j hj.1 hj.2).at_
    unfold Tr.cell0
    rw [n.toward]
    refine n.off _ haj _ (toward_or t _ _) ?_
    rw [hb]
    exact tow_ne hti haj hai _ _ (fun e => hji (act_one hti hW hj hi aj hact e))
  have act' : ∀ j, OI t j → (WkAct t' j ↔ WkAct t j) := fun j hj => by
    unfold WkAct
    rw [n.wk, n.wd _ (hti.wks j hj.1 hj.2).at_]
  have wkc' : ∀ j, OI t j → WkC t (whole L) j → WkC t' (whole L') j := fun j hj hc => by
    have haj := (hti.wks j hj.1 hj.2).at_
    refine ⟨by
      rw [n.wk]
      intro hm
      rcases hinn _ hm with e | e
      · exact hon _ _ (hc.on e) hm
      · have := hc.rk
        rw [e] at this
        have := hj.1
        unfold rk at *
        simp at *
        omega, by rw [n.wk, n.wd _ haj]; exact hc.rk⟩
  have trn' : ∀ j, OI t j → Trn t (whole L) j → Trn t' (whole L') j := fun j hj hx => n.trn hti hai hb hj (fun x hm => (hnodes x hm).imp id (fun e e2 => hS j hj (e2 ▸ e))) (hnx j hj hx) hx
  refine ⟨hkt, hnd, hord, fun p hp hx => ?_, fun p hp hx => ?_, fun p hp => ?_, fun j hj hs => ?_, fun j hj hs => ?_⟩
  · rw [n.inn] at hp
    rw [n.wd p hp] at hx ⊢
    rw [n.wk]; exact h.flag p hp hx
  · rw [n.inn] at hp
    rw [n.wd p hp] at hx ⊢
    rw [n.wk]; exact h.goes p hp hx
  · rw [n.inn] at hp
    rw [n.wd p hp]
    rcases h.sit p hp with e | e | e
    · exact (hin p e).imp id Or.inl
    · exact Or.inr (Or.inl e)
    · obtain ⟨j, f1, f2, f3, f4, f5⟩ := e
      by_cases hji : j = i
      · subst hji; exact Or.inl (hfi p f2 f3)
      · exact Or.inr (Or.inr ⟨j, (n.oi j).2 f1, by rw [n.wk]; exact f2, by rw [n.wk]; exact f3, (act' j f1).2 f4, by rw [n.wk, cell j f1 hji f4]; exact f5⟩)
  · rw [n.oi] at hj
    rw [n.wk] at hs
    by_cases hji : j = i
    · subst hji; exact h1 hs
    · obtain ⟨g1, q, v, g2, g3⟩ := h.wk1 j hj hs
      refine ⟨wkc' j hj g1, q, v, by rw [n.wk]; exact g2, ?_⟩
      rcases g3 with g3 | ⟨e1, e2, e3, e4, e5⟩
      · exact Or.inl (trn' j hj g3)
      · obtain ⟨s1, s2, s3⟩ := hSq j q hj hji g2 e5.inn
        have lo : lowN t' (t.wk j).old (t.wk j).key v = lowN t (t.wk j).old (t.wk j).key v := by unfold lowN; rw [n.nd]
        have hh : highN t' (t.wk j).old (t.wk j).key v = highN t (t.wk j).old (t.wk j).key v := by unfold highN; rw [n.nd]
        have haq : q ≠ (t.wk i).at_ := fun e => by
          have := e5.wd
          rw [e] at this
          have ha := hact
          unfold WkAct at ha
          have hp := packW_div (s := (t.wk i).state) (i := i) (by have := (hti.wks i hi.1 hi.2).kind; rcases this with ⟨h, _⟩ | ⟨h, _⟩ <;> omega) (by have := hi.2; omega)
          rw [← ha, this] at hp
          have := hi.1
          omega
        obtain ⟨b1, b2⟩ := br_ne hti e5.inn hai (t.wk i).key haq
        rw [← hb] at b1 b2
        refine Or.inr ⟨(act' j hj).2 e1, by rw [n.wk, cell j hj hji e1]; exact e2, by rw [n.wk, n.lf]; exact e3, by rw [n.wk, n.nd]; exact e4, ?_⟩
        rw [n.wk]
        exact ⟨(n.inn q).2 e5.inn, ⟨fun hm => (hnodes _ hm).elim e5.off.1 s1, fun hm => (hnodes _ hm).elim e5.off.2.1 s2, fun hm => (hnodes _ hm).elim e5.off.2.2 s3⟩, by rw [n.wd q e5.inn]; exact e5.wd,
          by rw [n.left, n.off q e5.inn _ (Or.inl rfl) b1]; exact e5.kl, by rw [n.right, n.off q e5.inn _ (Or.inr rfl) b2]; exact e5.kr, ⟨(n.lf _).2 e5.l0.1, (n.lf _).2 e5.l0.2⟩,
          by rw [n.nd, lo]; exact e5.n0, by rw [n.nd, hh]; exact e5.n1, by rw [n.nd, hh]; exact e5.n2, fun m hm => by rw [n.wk]; exact e5.olds m ((n.oi m).1 hm), fun m hm hq => by rw [n.wk] at hq; exact e5.one m ((n.oi m).1 hm) hq⟩
  · rw [n.oi] at hj
    rw [n.wk] at hs
    by_cases hji : j = i
    · subst hji; exact h2 hs
    · obtain ⟨g1, ⟨c1, c2, c3⟩, ⟨l, l1, l2, l3⟩, g4⟩ := h.wk2 j hj hs
      have hold := ((hti.wks j hj.1 hj.2).rem hs).1
      refine ⟨wkc' j hj g1, ⟨by rw [n.wk]; exact c1, by rw [n.wk]; exact c2, by rw [n.wk, n.wd _ hold]; exact c3⟩, ⟨l, (n.lf l).2 l1, by rw [n.wk, n.nd]; exact l2, ?_⟩, ?_⟩
      · rw [n.wk, n.wd _ hold, n.toward]
        intro hx
        rw [n.off _ hold _ (toward_or t _ _) ?_]
        · exact l3 hx
        · rw [hb]
          refine tow_ne hti hold hai _ _ (fun e => ?_)
          have ha := hact
          unfold WkAct at ha
          have hp := packW_div (s := (t.wk i).state) (i := i) (by have := (hti.wks i hi.1 hi.2).kind; rcases this with ⟨h, _⟩ | ⟨h, _⟩ <;> omega) (by have := hi.2; omega)
          have hp3 := packW_div (s := 3) (i := j) (by omega) (by have := hj.2; omega)
          have hk := (hti.wks i hi.1 hi.2).kind
          rw [e, ha] at hx
          rcases hx with hx | hx
          · rw [hx, c1] at hp; rcases hk with ⟨hk, _⟩ | ⟨hk, _⟩ <;> omega
          · rw [hx] at hp; rcases hk with ⟨hk, _⟩ | ⟨hk, _⟩ <;> omega
      · rw [n.wk, n.wd _ hold]
        rcases g4 with ⟨e1, e2⟩ | ⟨e1, e2⟩ | e1
        · exact Or.inl ⟨(act' j hj).2 e1, by rw [cell j hj hji e1]; exact e2⟩
        · exact Or.inr (Or.inl ⟨e1, trn' j hj e2⟩)
        · exact Or.inr (Or.inr e1)
end
end Go.Proofs.Ytmhiolhgofackaa
namespace Go.Proofs.Ytmhiolhgofackaa
open Go.RowKit
set_option linter.unusedVariables false
set_option linter.unusedSimpArgs false

section
variable {t t' : Tr} {L : PT} {b : Br} {nx : Nat}
theorem OnPath.tn_ins (n : Tn t t' b nx) {old : Nat} (hold : t.kid b = old) (hl : (t.nd old).inner = false) {k : ByteArray} {x : Nat} (h : OnPath t k x) : x ≠ old → OnPath t' k x := by
  induction h with
  | root => exact fun _ => .root
  | @step p hp hi ih =>
    intro hx
    have hpo : p ≠ old := fun e => by have := hi.2; rw [e, hl] at this; cases this
    by_cases e : t.toward p k = b
    · rw [e, hold] at hx; exact absurd rfl hx
    · have := OnPath.step (k := k) (ih hpo) ((n.inn p).2 hi)
      rw [n.toward, n.off p hi _ (toward_or t p k) e] at this
      exact this
theorem same_place {T : PT} (hk : Kt t T) (hn : T.nodes.Nodup) {p q : Nat} (hp : p ∈ T.inners) (hq : q ∈ T.inners) {k k' : ByteArray} (e : t.kid (t.toward p k) = t.kid (t.toward q k')) : p = q ∧ t.toward p k = t.toward q k' := by
  obtain ⟨o1, o2, o3, _⟩ := one_parent hk hn hp hq
  obtain ⟨_, _, o4, _⟩ := one_parent hk hn hq hp
  rcases toward_or t p k with e1 | e1 <;> rcases toward_or t q k' with e2 | e2 <;> rw [e1, e2] at e ⊢
  · have := o1 e; exact ⟨this, by rw [this]⟩
  · exact absurd e o3
  · exact absurd e.symm o4
  · have := o2 e; exact ⟨this, by rw [this]⟩
theorem OnPath.tn_del {T : PT} (hk : Kt t T) (hnd : T.nodes.Nodup) (h2 : T.pl = 2) {a old l : Nat} {ka : ByteArray} (n : Tn t t' (t.toward a ka) nx) (ha : a ∈ T.inners) (hold : t.kid (t.toward a ka) = old) (ho2 : old ≠ 2) (hoa : old ≠ a)
    (hl : (t.nd l).inner = false) (hkid : ∀ k, t.kid (t.toward old k) = l ∨ t.kid (t.toward old k) = nx) {k : ByteArray} {x : Nat} (h : OnPath t k x) : (x ≠ old → x ≠ l → OnPath t' k x) ∧ (x = old → OnPath t' k nx) := by
  induction h with
  | root => exact ⟨fun _ _ => .root, fun e => absurd e.symm ho2⟩
  | @step p hp hi ih =>
    have hpT : p ∈ T.inners := inner_mem hk (onpath_mem hk h2 hp) hi.2
    have hA : t.kid (t.toward p k) = old → p = a ∧ t.toward p k = t.toward a ka := fun e => same_place hk hnd hpT ha (by rw [e, hold])
    have hpl : p ≠ l := fun e => by have := hi.2; rw [e, hl] at this; cases this
    by_cases hpo : p = old
    · refine ⟨fun _ hx => ?_, fun e => ?_⟩
      · rw [hpo] at hx ⊢
        rcases hkid k with e | e
        · exact absurd e hx
        · rw [e]; exact ih.2 hpo
      · exact absurd (hpo.symm.trans (hA e).1) hoa
    · have hp' := ih.1 hpo hpl
      by_cases e : t.toward p k = t.toward a ka
      · refine ⟨fun hx _ => absurd (by rw [e, hold]) hx, fun _ => ?_⟩
        have := OnPath.step (k := k) hp' ((n.inn p).2 hi)
        rw [n.toward, e, n.on] at this
        exact this
      · refine ⟨fun _ _ => ?_, fun e2 => absurd (hA e2).2 e⟩
        have := OnPath.step (k := k) hp' ((n.inn p).2 hi)
        rw [n.toward, n.off p hi _ (toward_or t p k) e] at this
        exact this
theorem above2 (hti : TI t) (k : ByteArray) : (t.nd 2).above k = true := by unfold Nd.above; rw [hti.two.2]; rfl
theorem look_top_whole (hti : TI t) (k : ByteArray) : look t k (whole L) = look t k L := by
  show (if (t.nd 2).above k then _ else _) = _
  rw [if_pos (above2 hti k)]
theorem cont_path (h : LI t L) (hti : TI t) {k : ByteArray} {x : Nat} (hx : OnPath t k x) (hl : (t.nd x).inner = false) : cont t L k = if (t.nd x).has k then some (t.nd x).val else none := by
  unfold cont
  rw [← look_top_whole hti, onpath_leaf h.kt rfl hx hl]
theorem cxInn : ∀ {C : List Fm} {h : Nat}, CxK t C h → ∀ f ∈ C, Inn t f.p
  | [], _, _, f, hf => by cases hf
  | g :: C, _, ⟨⟨h1, _⟩, h2⟩, f, hf => by
    rcases List.mem_cons.1 hf with rfl | hf
    · exact h1
    · exact cxInn h2 f hf
/-- what an insertion's turn leaves -/
structure InsTo (t t' : Tr) (L : PT) (i : Nat) (L' : PT) (v : Int) : Prop where
  li : LI t' L'
  cont : ∀ k', Go.Proofs.Ytmhiolhgofackaa.cont t' L' k' = if k' = (t.wk i).key then some v else Go.Proofs.Ytmhiolhgofackaa.cont t L k'
  was : Go.Proofs.Ytmhiolhgofackaa.cont t L (t.wk i).key = none
  path : ∀ k x, OnPath t k x → x ≠ (t.wk i).old → OnPath t' k x
  leaf : (t.nd (t.wk i).old).inner = false
  inn : ∀ p ∈ (whole L').inners, p ∈ (whole L).inners ∨ t.wd p = 0
  trn : ∀ o, OI t o → Trn t (whole L) o → Trn t' (whole L') o
  self : Trn t' (whole L') i
  act : WkAct t i ∧ (t.wk i).at_ ∈ (whole L).inners
set_option maxHeartbeats 1000000 in
theorem LI.turn_ins (h : LI t L) (hti : TI t) (hW : t.ws.length ≤ 900000000) {i q : Nat} (hi : OI t i) (hs : (t.wk i).state = 1) (hq : (t.wk i).next = some q) (hc : t.cell0 (t.wk i) = (t.wk i).old) (n : Tn t t' (t.toward (t.wk i).at_ (t.wk i).key) q) : ∃ L' v, InsTo t t' L i L' v := by
  obtain ⟨hwc, q', v, hq', hr⟩ := h.wk1 i hi hs
  rw [hq] at hq'
  simp only [Option.some.injEq] at hq'
  subst hq'
  rcases hr with hr | ⟨act, un, hlf, hhas, fr⟩
  · exact absurd hc hr.1
  have hai := (hti.wks i hi.1 hi.2).at_
  obtain ⟨old, hold⟩ : ∃ old, old = (t.wk i).old := ⟨_, rfl⟩
  obtain ⟨key, hkey⟩ : ∃ key, key = (t.wk i).key := ⟨_, rfl⟩
  obtain ⟨a, hae⟩ : ∃ a, a = (t.wk i).at_ := ⟨_, rfl⟩
  have hcell : t.kid (t.toward a key) = old := by rw [hae, hkey, hold]; exact hc
  rw [← hold, ← hkey] at fr
  rw [← hae, ← hkey] at n
  rw [← hae] at hai
  rw [← hold] at hlf
  rw [← hold, ← hkey] at hhas
  have hpk := packW_div (s := 1) (i := i) (by omega) (by have := hi.2; omega)
  have hat : a ∈ (whole L).inners := h.flag_in hai (Or.inl (by have := act; unfold WkAct at this; rw [← hae, hs] at this; rw [this]; exact hpk.2))
  have hon : OnPath t key a := by have := hwc.on (by rw [← hae]; exact hat); rw [← hkey, ← hae] at this; exact this
  obtain ⟨D, sib, X, p1, p2, p3, p4, p5⟩ := onpath_step h.kt rfl hon hai
  rw [hcell] at p2
  have hX : X = .leaf old := by have := kt_leaf_of p5 (by rw [p2]; exact hlf.2); rw [p2] at this; exact this
  subst hX
  have hq3 := (hti.inn q fr.inn).1
  obtain ⟨m, rfl⟩ : ∃ m, q = m + 2 := ⟨q - 2, by omega⟩
  have em : m + 2 - 2 = m := by omega
  have em1 : m + 2 - 1 = m + 1 := by omega
  have f0 := fr.n0
  have f1 := fr.n1
  have fkl := fr.kl
  have fkr := fr.kr
  have foff := fr.off
  have fl0 := fr.l0
  have fol := fr.olds
  rw [em] at f0 fkl foff fl0 fol
  rw [em1] at f1 fkr foff fl0 fol
  obtain ⟨f, hf⟩ : ∃ f : Fm, f = ⟨a, (t.nd a).above key, sib⟩ := ⟨_, rfl⟩
  rw [← hf] at p1 p3 p4
  obtain ⟨L', hL'⟩ := plug_whole (above2 hti key) p1 p3 (.node (m + 2) (.leaf m) (.leaf (m + 1)))
  have hP := nodes_plug (f :: D) (.leaf old)
  rw [p1] at hP
  have hP' := nodes_plug (f :: D) (.node (m + 2) (.leaf m) (.leaf (m + 1)))
  rw [hL'] at hP'
  have hnd := hP.nodup_iff.1 h.nodup
  obtain ⟨nd1, _, nd3⟩ := List.nodup_append.1 hnd
  have hx0 : (PT.leaf old).nodes = [old] := rfl
  have hx1 : (PT.node (m + 2) (.leaf m) (.leaf (m + 1))).nodes = [m + 2, m, m + 1] := rfl
  rw [hx0] at hP nd3
  rw [hx1] at hP'
  have hmemT : ∀ x, x ∈ (whole L).nodes ↔ x ∈ cxNodes (f :: D) ∨ x = old := fun x => by rw [hP.mem_iff, List.mem_append, List.mem_singleton]
  have hmemT' : ∀ x, x ∈ (whole L').nodes ↔ x ∈ cxNodes (f :: D) ∨ x ∈ [m + 2, m, m + 1] := fun x => by rw [hP'.mem_iff, List.mem_append]
  have hold_cx : old ∉ cxNodes (f :: D) := fun hm => nd3 old hm old (by simp) rfl
  have hcx : cxNodes (f :: D) = a :: (sib.nodes ++ cxNodes D) := by rw [hf]; rfl
  rw [hcx] at nd1
  obtain ⟨na, _⟩ := List.nodup_cons.1 nd1
  have hqa : m + 2 ≠ a := fun e => foff.1 (by rw [e]; exact List.mem_append_left _ hat)
  have hne : ∀ p, Inn t p → p ≠ a → t.left p ≠ t.toward a key ∧ t.right p ≠ t.toward a key := fun p hp e => br_ne hti hp hai key e
  obtain ⟨⟨g1, g2, g3, g4⟩, g5⟩ := p4
  have hfp : f.p = a := by rw [hf]
  have hfs : f.sib = sib := by rw [hf]
  have hbr : t.br f = t.toward a key := by rw [hf]; unfold Tr.br Tr.toward; rfl
  have hbr' : t.br' f ≠ t.toward a key := by
    rw [← hbr]
    unfold Tr.br Tr.br'
    rw [hfp]
    cases f.lt
    · exact lr_ne hti hai
    · exact (lr_ne hti hai).symm
  have hbo : t.br' f = t.left a ∨ t.br' f = t.right a := by unfold Tr.br'; rw [hfp]; split; exact Or.inr rfl; exact Or.inl rfl
  have hkt : Kt t' (whole L') := by
    rw [← hL', kt_plug]
    refine ⟨⟨⟨(n.inn _).2 (by rw [hfp]; exact hai), ?_, ?_, ?_⟩, ?_⟩, (n.inn _).2 fr.inn, ?_, ?_, (n.lf _).2 fl0.1, (n.lf _).2 fl0.2⟩
    · have e : t'.br f = t.br f := by unfold Tr.br; rw [n.left, n.right]
      rw [e, hbr, n.on]; rfl
    · have e : t'.br' f = t.br' f := by unfold Tr.br'; rw [n.left, n.right]
      rw [e, n.off a hai _ hbo hbr']; exact g3
    · rw [hfs]
      rw [hfs] at g4
      exact kt_tn n g4 (fun p hp => hne p (kt_inners g4 p hp) (fun e => na (List.mem_append_left _ (by rw [← e]; exact List.mem_append_left _ hp))))
    · exact cxk_tn n g5 (fun p hp hpi => hne p hpi (fun e => na (List.mem_append_right _ (by rw [← e]; exact hp))))
    · rw [n.left, n.off _ fr.inn _ (Or.inl rfl) (hne _ fr.inn hqa).1]; exact fkl
    · rw [n.right, n.off _ fr.inn _ (Or.inr rfl) (hne _ fr.inn hqa).2]; exact fkr
  have hnd' : (whole L').nodes.Nodup := by
    rw [hP'.nodup_iff, List.nodup_append]
    refine ⟨by rw [hcx]; exact nd1, by simp, fun x hx y hy e => ?_⟩
    subst e
    have hxT := (hmemT x).2 (Or.inl hx)
    simp only [List.mem_cons, List.not_mem_nil, or_false] at hy
    rcases hy with rfl | rfl | rfl
    · exact foff.1 hxT
    · exact foff.2.1 hxT
    · exact foff.2.2 hxT
  obtain ⟨r1, r2⟩ := ins_cont1 (t := t) (T := t') (n := m) (l := old) (k := key) (v := v) (fun p _ => n.nd p) (n.nd 2) (by rw [n.nd]; exact f0) (by rw [n.nd]; exact f1) (by rw [n.nd]; exact fr.n2) p1 hL' p3 h.ord hhas (fun k => above2 hti k)
  have hpath : ∀ k x, OnPath t k x → x ≠ old → OnPath t' k x := fun k x hx hxo => OnPath.tn_ins n hcell hlf.2 hx hxo
  have hqT : m + 2 ∈ (whole L').inners := inner_mem hkt ((hmemT' _).2 (Or.inr (by simp))) (by rw [n.nd]; exact fr.inn.2)
  have hinn : ∀ p ∈ (whole L').inners, p ∈ (whole L).inners ∨ t.wd p = 0 := fun p hp => by
    have hpi := (kt_inners hkt p hp).2
    rw [n.nd] at hpi
    rcases (hmemT' p).1 (List.mem_append_left _ hp) with e | e
    · exact Or.inl (inner_mem h.kt ((hmemT p).2 (Or.inl e)) hpi)
    · simp only [List.mem_cons, List.not_mem_nil, or_false] at e
      rcases e with rfl | rfl | rfl
      · exact Or.inr fr.wd
      · rw [fl0.1.2] at hpi; cases hpi
      · rw [fl0.2.2] at hpi; cases hpi
  have hOnI : ∀ k x, OnPath t k x → x ∈ (whole L').inners → OnPath t' k x := fun k x hx hm => hpath k x hx (fun e => by
    have := (kt_inners hkt x hm).2
    rw [n.nd, e, hlf.2] at this; cases this)
  have hself : Trn t' (whole L') i := by
    refine ⟨?_, ?_⟩
    · unfold Tr.cell0
      rw [n.wk, n.toward, ← hae, ← hkey, n.on, ← hold]
      exact fun e => (fol i hi).1 (by rw [← hold]; exact e.symm)
    · rw [n.wk, ← hold]
      intro hm
      rcases (hmemT' old).1 hm with e | e
      · exact hold_cx e
      · obtain ⟨x1, x2, x3⟩ := fol i hi
        rw [← hold] at x1 x2 x3
        simp only [List.mem_cons, List.not_mem_nil, or_false] at e
        rcases e with e | e | e
        · exact x1 e
        · exact x2 e
        · exact x3 e
  refine ⟨L', v, ⟨h.turned hti hW hi act (by rw [← hae, ← hkey]) n [m + 2, m, m + 1] hkt hnd' r1 (fun p hp => ?_) (fun x hx => ((hmemT' x).1 hx).imp (fun e => (hmemT x).2 (Or.inl e)) id) (fun j hj hm => ?_) (fun j q' hj hji hq' hqi => ?_) hinn hOnI (fun j hj _ e => (fol j hj).1 e.symm) (fun _ => ⟨⟨?_, ?_⟩, m + 2, v, by rw [n.wk]; exact hq, Or.inl hself⟩) (fun e => by omega) (fun p _ hp => ?_), fun k' => by rw [← hkey]; exact r2 k', ?_, fun k x hx hxo => hpath k x hx (by rw [hold]; exact hxo), by rw [← hold]; exact hlf.2, hinn, fun j hj hx => n.trn hti hai rfl hj (fun x hx => ((hmemT' x).1 hx).imp (fun e => (hmemT x).2 (Or.inl e)) (fun e => ?_)) (fun e => (fol j hj).1 e.symm) hx, hself, act, by rw [← hae]; exact hat⟩⟩
  · left
    have hpi := (kt_inners h.kt p hp).2
    rcases (hmemT p).1 (List.mem_append_left _ hp) with e | e
    · exact inner_mem hkt ((hmemT' p).2 (Or.inl e)) (by rw [n.nd]; exact hpi)
    · rw [e, hlf.2] at hpi; cases hpi
  · obtain ⟨x1, x2, x3⟩ := fol j hj
    simp only [List.mem_cons, List.not_mem_nil, or_false] at hm
    rcases hm with e | e | e
    · exact x1 e
    · exact x2 e
    · exact x3 e
  · have hm3 := (hti.inn q' hqi).1
    have hne2 : q' ≠ m + 2 := fun e => hji (fr.one j hj (by rw [← e]; exact hq'))
    simp only [List.mem_cons, List.not_mem_nil, or_false]
    omega
  · rw [n.wk, ← hae, ← hkey]
    exact fun hm => hOnI _ _ hon hm
  · rw [n.wk, n.wd _ (by rw [← hae]; exact hai)]
    exact hwc.rk
  · rw [hq] at hp
    simp only [Option.some.injEq] at hp
    rw [← hp]; exact hqT
  · have hol : OnPath t key old := by rw [← hcell]; exact .step hon hai
    rw [← hkey, cont_path h hti hol hlf.2, hhas]
    rfl
  · obtain ⟨x1, x2, x3⟩ := fol j hj
    simp only [List.mem_cons, List.not_mem_nil, or_false] at e
    rcases e with e | e | e
    · rw [e]; exact x1
    · rw [e]; exact x2
    · rw [e]; exact x3
end
end Go.Proofs.Ytmhiolhgofackaa
namespace Go.Proofs.Ytmhiolhgofackaa
open Go.RowKit
set_option linter.unusedVariables false
set_option linter.unusedSimpArgs false

section
variable {t t' : Tr} {L : PT} {nx : Nat}
/-- what a deletion's turn leaves -/
structure DelTo (t t' : Tr) (L : PT) (i : Nat) (L' : PT) (l : Nat) (nx : Nat) : Prop where
  li : LI t' L'
  cont : ∀ k', Go.Proofs.Ytmhiolhgofackaa.cont t' L' k' = if k' = (t.wk i).key then none else Go.Proofs.Ytmhiolhgofackaa.cont t L k'
  was : Go.Proofs.Ytmhiolhgofackaa.cont t L (t.wk i).key ≠ none
  path : ∀ k x, OnPath t k x → (x ≠ (t.wk i).old → x ≠ l → OnPath t' k x) ∧ (x = (t.wk i).old → OnPath t' k nx)
  leaf : LfOk t l ∧ (∀ k, t.kid (t.toward (t.wk i).old k) = l ∨ t.kid (t.toward (t.wk i).old k) = nx)
  inn : ∀ p ∈ (whole L').inners, p ∈ (whole L).inners
  gone : Inn t (t.wk i).old ∧ t.wd (t.wk i).old % 4 = 3 ∧ (t.wk i).old ∉ (whole L').nodes
  trn : ∀ o, OI t o → Trn t (whole L) o → Trn t' (whole L') o
  self : Trn t' (whole L') i
  act : WkAct t i ∧ (t.wk i).at_ ∈ (whole L).inners
theorem toward_beside (t : Tr) (p : Nat) (k k' : ByteArray) : t.toward p k' = t.toward p k ∨ t.toward p k' = t.beside p k := by
  unfold Tr.toward Tr.beside
  cases (t.nd p).above k <;> cases (t.nd p).above k' <;> simp
set_option maxHeartbeats 1000000 in
theorem LI.turn_del (h : LI t L) (hti : TI t) (hW : t.ws.length ≤ 900000000) {i : Nat} (hi : OI t i) (hs : (t.wk i).state = 2) (hm3 : t.wd (t.wk i).old = packW 3 i) (hc : t.cell0 (t.wk i) = (t.wk i).old) (hnx : t.kid (t.beside (t.wk i).old (t.wk i).key) = nx)
    (n : Tn t t' (t.toward (t.wk i).at_ (t.wk i).key) nx) : ∃ L' l, DelTo t t' L i L' l nx := by
  obtain ⟨hwc, ⟨c1, c2, c3⟩, ⟨l, l1, l2, l3⟩, h4⟩ := h.wk2 i hi hs
  have act : WkAct t i := by
    rcases h4 with e | e | e
    · exact e.1
    · exact absurd hc e.2.1
    · exact absurd hm3 e.1
  have hwk := hti.wks i hi.1 hi.2
  have hai := hwk.at_
  obtain ⟨hoi, ho2⟩ := hwk.rem hs
  obtain ⟨old, hold⟩ : ∃ old, old = (t.wk i).old := ⟨_, rfl⟩
  obtain ⟨key, hkey⟩ : ∃ key, key = (t.wk i).key := ⟨_, rfl⟩
  obtain ⟨a, hae⟩ : ∃ a, a = (t.wk i).at_ := ⟨_, rfl⟩
  have hcell : t.kid (t.toward a key) = old := by rw [hae, hkey, hold]; exact hc
  rw [← hae, ← hkey] at n
  rw [← hae] at hai
  rw [← hold] at hoi ho2 hm3
  rw [← hold, ← hkey] at hnx l3
  rw [← hkey] at l2
  have hpk := packW_div (s := 2) (i := i) (by omega) (by have := hi.2; omega)
  have hp3 := packW_div (s := 3) (i := i) (by omega) (by have := hi.2; omega)
  have hwa : t.wd a = packW 2 i := by have := act; unfold WkAct at this; rw [← hae, hs] at this; exact this
  have hat : a ∈ (whole L).inners := h.flag_in hai (Or.inr (by rw [hwa]; exact hpk.2))
  have hon : OnPath t key a := by have := hwc.on (by rw [← hae]; exact hat); rw [← hkey, ← hae] at this; exact this
  have hl := l3 (Or.inr hm3)
  have hoa : old ≠ a := fun e => by rw [e, hwa] at hm3; rw [hm3] at hpk; omega
  obtain ⟨D, sib, X, p1, p2, p3, p4, p5⟩ := onpath_step h.kt rfl hon hai
  rw [hcell] at p2
  obtain ⟨f, hf⟩ : ∃ f : Fm, f = ⟨a, (t.nd a).above key, sib⟩ := ⟨_, rfl⟩
  rw [← hf] at p1 p3 p4
  -- the node that goes, with its leaf
  obtain ⟨g, hgp, hgl, hgX, hgs⟩ : ∃ g : Fm, g.p = old ∧ g.lt = (t.nd old).above key ∧ X = g.fill (.leaf l) ∧ g.sib.pl = nx ∧ Kt t g.sib := by
    obtain ⟨x, y, hX⟩ := kt_node_of p5 (by rw [p2]; exact hoi.2)
    rw [p2] at hX
    rw [hX] at p5
    obtain ⟨_, k2, k3, k4, k5⟩ := p5
    cases ha : (t.nd old).above key with
    | true =>
      have e1 : t.toward old key = t.left old := by unfold Tr.toward; rw [if_pos ha]
      have e2 : t.beside old key = t.right old := by unfold Tr.beside; rw [if_pos ha]
      rw [e1, k2] at hl
      rw [e2, k3] at hnx
      have hx : x = .leaf l := by have := kt_leaf_of k4 (by rw [hl]; exact l1.2); rw [hl] at this; exact this
      exact ⟨⟨old, true, y⟩, rfl, rfl, by rw [hX, hx]; rfl, hnx, k5⟩
    | false =>
      have e1 : t.toward old key = t.right old := by unfold Tr.toward; rw [if_neg (by rw [ha]; simp)]
      have e2 : t.beside old key = t.left old := by unfold Tr.beside; rw [if_neg (by rw [ha]; simp)]
      rw [e1, k3] at hl
      rw [e2, k2] at hnx
      have hx : y = .leaf l := by have := kt_leaf_of k5 (by rw [hl]; exact l1.2); rw [hl] at this; exact this
      exact ⟨⟨old, false, x⟩, rfl, rfl, by rw [hX, hx]; rfl, hnx, k4⟩
  obtain ⟨hgs, hgk⟩ := hgs
  subst hgX
  have q1 : plug (g :: f :: D) (.leaf l) = whole L := p1
  have q3 : Sides t key (g :: f :: D) := fun x hx => by
    rcases List.mem_cons.1 hx with rfl | hx
    · rw [hgp]; exact hgl
    · exact p3 x hx
  obtain ⟨L', hL'⟩ := plug_whole (above2 hti key) p1 p3 g.sib
  have hP := (nodes_plug (f :: D) (g.fill (.leaf l))).trans (List.Perm.append_left _ (nodes_fill g (.leaf l)))
  rw [p1] at hP
  have hP' := nodes_plug (f :: D) g.sib
  rw [hL'] at hP'
  have hnd := hP.nodup_iff.1 h.nodup
  have hx0 : (PT.leaf l).nodes = [l] := rfl
  rw [hx0, hgp] at hP hnd
  obtain ⟨nd1, nd2, nd3⟩ := List.nodup_append.1 hnd
  obtain ⟨ndo, nd4⟩ := List.nodup_cons.1 nd2
  obtain ⟨nd5, _, nd6⟩ := List.nodup_append.1 nd4
  have hmemT : ∀ x, x ∈ (whole L).nodes ↔ x ∈ cxNodes (f :: D) ∨ x = old ∨ x ∈ g.sib.nodes ∨ x = l := fun x => by rw [hP.mem_iff, List.mem_append, List.mem_cons, List.mem_append, List.mem_singleton]
  have hmemT' : ∀ x, x ∈ (whole L').nodes ↔ x ∈ cxNodes (f :: D) ∨ x ∈ g.sib.nodes := fun x => by rw [hP'.mem_iff, List.mem_append]
  have hold' : old ∉ (whole L').nodes := fun hm => by
    rcases (hmemT' old).1 hm with e | e
    · exact nd3 old e old (by simp) rfl
    · exact ndo (List.mem_append_left _ e)
  have hl' : l ∉ (whole L').nodes := fun hm => by
    rcases (hmemT' l).1 hm with e | e
    · exact nd3 l e l (by simp) rfl
    · exact nd6 l e l (by simp) rfl
  have hnxT : nx ∈ (whole L).nodes := (hmemT nx).2 (Or.inr (Or.inr (Or.inl (by rw [← hgs]; exact pl_mem _))))
  have hnxo : nx ≠ old := fun e => ndo (List.mem_append_left _ (by rw [← e, ← hgs]; exact pl_mem _))
  have hcx : cxNodes (f :: D) = a :: (sib.nodes ++ cxNodes D) := by rw [hf]; rfl
  have nd1' := nd1
  rw [hcx] at nd1'
  obtain ⟨na, _⟩ := List.nodup_cons.1 nd1'
  have hne : ∀ p, Inn t p → p ≠ a → t.left p ≠ t.toward a key ∧ t.right p ≠ t.toward a key := fun p hp e => br_ne hti hp hai key e
  obtain ⟨⟨g1, g2, g3, g4⟩, g5⟩ := p4
  have hfp : f.p = a := by rw [hf]
  have hfs : f.sib = sib := by rw [hf]
  have hbr : t.br f = t.toward a key := by rw [hf]; unfold Tr.br Tr.toward; rfl
  have hbr' : t.br' f ≠ t.toward a key := by
    rw [← hbr]
    unfold Tr.br Tr.br'
    rw [hfp]
    cases f.lt
    · exact lr_ne hti hai
    · exact (lr_ne hti hai).symm
  have hbo : t.br' f = t.left a ∨ t.br' f = t.right a := by unfold Tr.br'; rw [hfp]; split; exact Or.inr rfl; exact Or.inl rfl
  have hkt : Kt t' (whole L') := by
    rw [← hL', kt_plug]
    refine ⟨⟨⟨(n.inn _).2 (by rw [hfp]; exact hai), ?_, ?_, ?_⟩, ?_⟩, kt_tn n hgk (fun p hp => hne p (kt_inners hgk p hp) (fun e => ?_))⟩
    · have e : t'.br f = t.br f := by unfold Tr.br; rw [n.left, n.right]
      rw [e, hbr, n.on, hgs]
    · have e : t'.br' f = t.br' f := by unfold Tr.br'; rw [n.left, n.right]
      rw [e, n.off a hai _ hbo hbr']; exact g3
    · rw [hfs]
      rw [hfs] at g4
      exact kt_tn n g4 (fun p hp => hne p (kt_inners g4 p hp) (fun e => na (List.mem_append_left _ (by rw [← e]; exact List.mem_append_left _ hp))))
    · exact cxk_tn n g5 (fun p hp hpi => hne p hpi (fun e => na (List.mem_append_right _ (by rw [← e]; exact hp))))
    · exact nd3 a (by rw [hcx]; simp) a (List.mem_cons_of_mem _ (List.mem_append_left _ (by rw [← e]; exact List.mem_append_left _ hp))) rfl
  have hnd' : (whole L').nodes.Nodup := by
    rw [hP'.nodup_iff, List.nodup_append]
    exact ⟨nd1, nd5, fun x hx y hy e => nd3 x hx y (List.mem_cons_of_mem _ (List.mem_append_left _ hy)) e⟩
  obtain ⟨r1, r2⟩ := rem_cont (t := t) (T := t') (l := l) (k := key) (fun p => n.nd p) q1 hL' q3 h.ord l2 (fun k => above2 hti k)
  have hkid : ∀ k, t.kid (t.toward old k) = l ∨ t.kid (t.toward old k) = nx := fun k => by
    rcases toward_beside t old key k with e | e
    · rw [e]; exact Or.inl hl
    · rw [e]; exact Or.inr hnx
  have hpath : ∀ k x, OnPath t k x → (x ≠ old → x ≠ l → OnPath t' k x) ∧ (x = old → OnPath t' k nx) := fun k x hx => OnPath.tn_del h.kt h.nodup rfl n hat hcell ho2 hoa l1.2 hkid hx
  have hinn : ∀ p ∈ (whole L').inners, p ∈ (whole L).inners := fun p hp => by
    have hpi := (kt_inners hkt p hp).2
    rw [n.nd] at hpi
    refine inner_mem h.kt ((hmemT p).2 ?_) hpi
    rcases (hmemT' p).1 (List.mem_append_left _ hp) with e | e
    · exact Or.inl e
    · exact Or.inr (Or.inr (Or.inl e))
  have hOnI : ∀ k x, OnPath t k x → x ∈ (whole L').inners → OnPath t' k x := fun k x hx hm => (hpath k x hx).1 (fun e => hold' (by rw [← e]; exact List.mem_append_left _ hm)) (fun e => hl' (by rw [← e]; exact List.mem_append_left _ hm))
  have hTsub : ∀ x ∈ (whole L').nodes, x ∈ (whole L).nodes := fun x hx => (hmemT x).2 (((hmemT' x).1 hx).imp id (fun e => Or.inr (Or.inl e)))
  have hself : Trn t' (whole L') i := by
    refine ⟨?_, ?_⟩
    · unfold Tr.cell0
      rw [n.wk, n.toward, ← hae, ← hkey, n.on, ← hold]
      exact hnxo
    · rw [n.wk, ← hold]; exact hold'
  refine ⟨L', l, ⟨h.turned hti hW hi act (by rw [← hae, ← hkey]) n [] hkt hnd' r1 (fun p hp => ?_) (fun x hx => Or.inl (hTsub x hx)) (fun j hj hm => by cases hm) (fun j q' hj hji hq' hqi => by simp) (fun p hp => Or.inl (hinn p hp)) hOnI (fun j hj htr e => htr.2 (by rw [← e]; exact hnxT)) (fun e => by omega) (fun _ => ⟨⟨?_, ?_⟩, ⟨by rw [n.wk]; exact c1, by rw [n.wk]; exact c2, ?_⟩, ⟨l, (n.lf l).2 l1, by rw [n.wk, n.nd, ← hkey]; exact l2, fun _ => ?_⟩, Or.inr (Or.inl ⟨?_, hself⟩)⟩) (fun p hp _ => by omega), fun k' => by rw [← hkey]; exact r2 k', ?_, fun k x hx => by rw [← hold]; exact hpath k x hx, ⟨l1, by rw [← hold]; exact hkid⟩, hinn, by rw [← hold]; exact ⟨hoi, by rw [hm3]; exact hp3.2, hold'⟩, fun j hj hx => n.trn hti hai rfl hj (fun x hx => Or.inl (hTsub x hx)) (fun e => hx.2 (by rw [← e]; exact hnxT)) hx, hself, act, by rw [← hae]; exact hat⟩⟩
  · by_cases e : p = old
    · right; rw [e, hm3]; exact hp3.2
    · left
      have hpi := (kt_inners h.kt p hp).2
      refine inner_mem hkt ((hmemT' p).2 ?_) (by rw [n.nd]; exact hpi)
      rcases (hmemT p).1 (List.mem_append_left _ hp) with e1 | e1 | e1 | e1
      · exact Or.inl e1
      · exact absurd e1 e
      · exact Or.inr e1
      · rw [e1, l1.2] at hpi; cases hpi
  · rw [n.wk, ← hae, ← hkey]
    exact fun hm => hOnI _ _ hon hm
  · rw [n.wk, n.wd _ (by rw [← hae]; exact hai)]
    exact hwc.rk
  · rw [n.wk, n.wd _ (by rw [← hold]; exact hoi)]; exact c3
  · rw [n.wk, n.toward, ← hold, ← hkey, n.off old hoi _ (toward_or t _ _) (tow_ne hti hoi hai _ _ hoa)]
    exact hl
  · rw [n.wk, n.wd _ (by rw [← hold]; exact hoi), ← hold]; exact hm3
  · have hoo : OnPath t key old := by rw [← hcell]; exact .step hon hai
    have hol : OnPath t key l := by rw [← hl]; exact .step hoo hoi
    rw [← hkey, cont_path h hti hol l1.2, l2]
    simp
end
end Go.Proofs.Ytmhiolhgofackaa
