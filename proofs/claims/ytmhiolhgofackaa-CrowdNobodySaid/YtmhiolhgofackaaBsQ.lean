/- PACKAGE bst, PLAINLY: a quiet tree: its shape, by contexts; its keys' order
PACKAGE bst, PLAINLY: a way down a quiet tree
PACKAGE bst, PLAINLY: the way as a context; cells that are turned
PACKAGE bst, PLAINLY: an Insert alone
PACKAGE bst, PLAINLY: an Insert alone, from the leaf on
PACKAGE bst, PLAINLY: what an Insert alone leaves is quiet
PACKAGE bst, PLAINLY: what an Insert alone leaves is quiet: its shape -/
import Derived.Test.YtmhiolhgofackaaBsStep
import Derived.Test.YtmhiolhgofackaaBsMake
namespace Go.Proofs.Ytmhiolhgofackaa
open Go.RowKit
set_option linter.unusedVariables false
set_option linter.unusedSimpArgs false

/-- a shape: places of leaves and inner nodes -/
inductive PT
  | leaf (p : Nat)
  | node (p : Nat) (l r : PT)
def PT.pl : PT → Nat
  | .leaf p => p
  | .node p _ _ => p
def PT.inners : PT → List Nat
  | .leaf _ => []
  | .node p l r => p :: (l.inners ++ r.inners)
def PT.leaves : PT → List Nat
  | .leaf p => [p]
  | .node _ l r => l.leaves ++ r.leaves
def PT.last : PT → Nat
  | .leaf p => p
  | .node _ _ r => r.last
def PT.depth : PT → Nat
  | .leaf _ => 0
  | .node _ l r => max l.depth r.depth + 1
theorem PT.depth_le : ∀ T : PT, T.depth ≤ T.inners.length
  | .leaf _ => Nat.le_refl _
  | .node p l r => by
    have := PT.depth_le l
    have := PT.depth_le r
    simp only [PT.depth, PT.inners, List.length_cons, List.length_append]
    omega
/-- an inner node as it is kept: its cells, its word clean -/
structure InOk (t : Tr) (p : Nat) : Prop where
  lt : p < t.ns.length
  inner : (t.nd p).inner = true
  two : 2 ≤ p
  mod : p % 3 = 2
  cell : (t.nd p).cell = (p : Int) - 2
  clean : t.ms.at (t.nd p).cell % 4 = 0
  isu : IsU (t.ms.at (t.nd p).cell)
def LfOk (t : Tr) (p : Nat) : Prop := p < t.ns.length ∧ (t.nd p).inner = false
def At (t : Tr) : PT → Prop
  | .leaf p => LfOk t p
  | .node p l r => InOk t p ∧ t.kid (t.left p) = l.pl ∧ t.kid (t.right p) = r.pl ∧ At t l ∧ At t r
/-- one frame of a context: at an inner node, which side the hole is, what stands on the other side -/
structure Fm where
  p : Nat
  lt : Bool
  sib : PT
def Fm.fill (f : Fm) (T : PT) : PT := if f.lt then .node f.p T f.sib else .node f.p f.sib T
def plug : List Fm → PT → PT
  | [], T => T
  | f :: C, T => plug C (f.fill T)
def Tr.br (t : Tr) (f : Fm) : Br := if f.lt then t.left f.p else t.right f.p
def Tr.br' (t : Tr) (f : Fm) : Br := if f.lt then t.right f.p else t.left f.p
def FmOk (t : Tr) (f : Fm) (h : Nat) : Prop := InOk t f.p ∧ t.kid (t.br f) = h ∧ t.kid (t.br' f) = f.sib.pl ∧ At t f.sib
def CxAt (t : Tr) : List Fm → Nat → Prop
  | [], _ => True
  | f :: C, h => FmOk t f h ∧ CxAt t C f.p
theorem Fm.fill_pl (f : Fm) (T : PT) : (f.fill T).pl = f.p := by unfold Fm.fill; split <;> rfl
theorem at_fill {t : Tr} {f : Fm} {T : PT} : At t (f.fill T) ↔ FmOk t f T.pl ∧ At t T := by
  unfold Fm.fill FmOk Tr.br Tr.br'
  cases f.lt
  · simp only [Bool.false_eq_true, if_false]
    exact ⟨fun ⟨h1, h2, h3, h4, h5⟩ => ⟨⟨h1, h3, h2, h4⟩, h5⟩, fun ⟨⟨h1, h3, h2, h4⟩, h5⟩ => ⟨h1, h2, h3, h4, h5⟩⟩
  · simp only [if_true]
    exact ⟨fun ⟨h1, h2, h3, h4, h5⟩ => ⟨⟨h1, h2, h3, h5⟩, h4⟩, fun ⟨⟨h1, h2, h3, h5⟩, h4⟩ => ⟨h1, h2, h3, h4, h5⟩⟩
theorem at_plug {t : Tr} : ∀ {C : List Fm} {T : PT}, At t (plug C T) ↔ CxAt t C T.pl ∧ At t T
  | [], T => ⟨fun h => ⟨trivial, h⟩, fun h => h.2⟩
  | f :: C, T => by
    show At t (plug C (f.fill T)) ↔ _
    rw [at_plug, at_fill, Fm.fill_pl]
    exact ⟨fun ⟨h1, h2, h3⟩ => ⟨⟨h2, h1⟩, h3⟩, fun ⟨⟨h2, h1⟩, h3⟩ => ⟨h1, h2, h3⟩⟩
def cxInners : List Fm → List Nat
  | [] => []
  | f :: C => f.p :: (f.sib.inners ++ cxInners C)
theorem fill_inners (f : Fm) (T : PT) : (f.fill T).inners.Perm (f.p :: (f.sib.inners ++ T.inners)) := by
  unfold Fm.fill
  cases f.lt
  · simp [PT.inners]
  · simp only [if_true, PT.inners]
    exact List.Perm.cons _ List.perm_append_comm
theorem plug_inners : ∀ (C : List Fm) (T : PT), (plug C T).inners.Perm (cxInners C ++ T.inners)
  | [], T => List.Perm.refl _
  | f :: C, T => by
    refine (plug_inners C (f.fill T)).trans ?_
    refine (List.Perm.append_left _ (fill_inners f T)).trans ?_
    simp only [cxInners, List.cons_append]
    refine (List.perm_middle).trans (List.Perm.cons _ ?_)
    rw [← List.append_assoc]
    exact List.Perm.append_right _ List.perm_append_comm
/-! what a quiet tree is -/
structure Quiet (t : Tr) (L : PT) : Prop where
  at_ : At t (.node 2 L (.leaf 1))
  nodup : (PT.node 2 L (.leaf 1)).inners.Nodup
  live : ∀ i, t.live i = false
  wks : WksIn t
  len : t.ms.c.length = t.ns.length
  mod : t.ns.length % 3 = 0
  top : (t.nd 2).fin = true
  one : (t.nd 1).fin = true
  last : (t.nd L.last).fin = true
  isu : ∀ x ∈ t.ms.c, IsU x
/-- only the count of what was asked is another one -/
structure SameC (t t' : Tr) : Prop where
  ns : t'.ns = t.ns
  ws : t'.ws = t.ws
  live : t'.live = t.live
  c : t'.ms.c = t.ms.c
theorem SameC.refl (t : Tr) : SameC t t := ⟨rfl, rfl, rfl, rfl⟩
theorem SameC.trans {a b c : Tr} (h : SameC a b) (k : SameC b c) : SameC a c := ⟨k.ns.trans h.ns, k.ws.trans h.ws, k.live.trans h.live, k.c.trans h.c⟩
theorem SameC.ask (t : Tr) (c : Int) : SameC t (t.ask c) := ⟨rfl, rfl, rfl, by unfold Tr.ask MS.ask; dsimp only; split <;> rfl⟩
theorem SameC.nd {t t' : Tr} (h : SameC t t') (p : Nat) : t'.nd p = t.nd p := by unfold Tr.nd; rw [h.ns]
theorem SameC.atc {t t' : Tr} (h : SameC t t') (x : Int) : t'.ms.at x = t.ms.at x := by unfold MS.at MS.has; rw [h.c]
theorem SameC.kid {t t' : Tr} (h : SameC t t') (b : Br) : t'.kid b = t.kid b := by unfold Tr.kid; rw [h.atc]
theorem SameC.left {t t' : Tr} (h : SameC t t') (p : Nat) : t'.left p = t.left p := by unfold Tr.left; rw [h.nd]
theorem SameC.right {t t' : Tr} (h : SameC t t') (p : Nat) : t'.right p = t.right p := by unfold Tr.right; rw [h.nd]
theorem SameC.inOk {t t' : Tr} (h : SameC t t') {p : Nat} (k : InOk t p) : InOk t' p := by
  obtain ⟨k1, k2, k3, k4, k5, k6, k7⟩ := k
  exact ⟨by rw [h.ns]; exact k1, by rw [h.nd]; exact k2, k3, k4, by rw [h.nd]; exact k5, by rw [h.nd, h.atc]; exact k6, by rw [h.nd, h.atc]; exact k7⟩
theorem SameC.at_ {t t' : Tr} (h : SameC t t') : ∀ {T : PT}, At t T → At t' T
  | .leaf p, ⟨k1, k2⟩ => ⟨by rw [h.ns]; exact k1, by rw [h.nd]; exact k2⟩
  | .node p l r, ⟨k1, k2, k3, k4, k5⟩ => ⟨h.inOk k1, by rw [h.left, h.kid]; exact k2, by rw [h.right, h.kid]; exact k3, h.at_ k4, h.at_ k5⟩
theorem SameC.quiet {t t' : Tr} (h : SameC t t') {L : PT} (k : Quiet t L) : Quiet t' L := by
  obtain ⟨k1, k2, k3, k4, k5, k6, k7, k8, k9, k10⟩ := k
  exact ⟨h.at_ k1, k2, fun i => by rw [h.live]; exact k3 i, fun o ho => by rw [h.ws] at ho; rw [h.ns]; exact k4 o ho, by rw [h.c, h.ns]; exact k5, by rw [h.ns]; exact k6, by rw [h.nd]; exact k7, by rw [h.nd]; exact k8, by rw [h.nd]; exact k9, by rw [h.c]; exact k10⟩
/-- the same, but for some inner nodes' cells; more nodes -/
structure More (S : List Nat) (t t' : Tr) : Prop where
  ns : t.ns.length ≤ t'.ns.length
  nd : ∀ p, p < t.ns.length → t'.nd p = t.nd p
  c : ∀ p, InOk t p → p ∉ S → ∀ i : Int, 0 ≤ i → i < 3 → t'.ms.at ((t.nd p).cell + i) = t.ms.at ((t.nd p).cell + i)
theorem More.inOk {S : List Nat} {t t' : Tr} (h : More S t t') {p : Nat} (k : InOk t p) (hp : p ∉ S) : InOk t' p := by
  have hc := h.c p k hp 0 (by omega) (by omega)
  rw [Int.add_zero] at hc
  obtain ⟨k1, k2, k3, k4, k5, k6, k7⟩ := k
  exact ⟨Nat.lt_of_lt_of_le k1 h.ns, by rw [h.nd p k1]; exact k2, k3, k4, by rw [h.nd p k1]; exact k5, by rw [h.nd p k1, hc]; exact k6, by rw [h.nd p k1, hc]; exact k7⟩
theorem More.left {S : List Nat} {t t' : Tr} (h : More S t t') {p : Nat} (k : InOk t p) (hp : p ∉ S) : t'.left p = t.left p ∧ t'.kid (t.left p) = t.kid (t.left p) := by
  have hc := h.c p k hp 1 (by omega) (by omega)
  exact ⟨by unfold Tr.left; rw [h.nd p k.lt], by unfold Tr.kid Tr.left; dsimp only; rw [hc]⟩
theorem More.right {S : List Nat} {t t' : Tr} (h : More S t t') {p : Nat} (k : InOk t p) (hp : p ∉ S) : t'.right p = t.right p ∧ t'.kid (t.right p) = t.kid (t.right p) := by
  have hc := h.c p k hp 2 (by omega) (by omega)
  exact ⟨by unfold Tr.right; rw [h.nd p k.lt], by unfold Tr.kid Tr.right; dsimp only; rw [hc]⟩
theorem More.at_ {S : List Nat} {t t' : Tr} (h : More S t t') : ∀ {T : PT}, At t T → (∀ p ∈ T.inners, p ∉ S) → At t' T
  | .leaf p, ⟨k1, k2⟩, _ => ⟨Nat.lt_of_lt_of_le k1 h.ns, by rw [h.nd p k1]; exact k2⟩
  | .node p l r, ⟨k1, k2, k3, k4, k5⟩, hn => by
    have hp := hn p (by simp [PT.inners])
    obtain ⟨l1, l2⟩ := h.left k1 hp
    obtain ⟨r1, r2⟩ := h.right k1 hp
    exact ⟨h.inOk k1 hp, by rw [l1, l2]; exact k2, by rw [r1, r2]; exact k3, h.at_ k4 (fun q hq => hn q (by simp [PT.inners, hq])), h.at_ k5 (fun q hq => hn q (by simp [PT.inners, hq]))⟩
theorem More.cx {S : List Nat} {t t' : Tr} (h : More S t t') : ∀ {C : List Fm} {p : Nat}, CxAt t C p → (∀ q ∈ cxInners C, q ∉ S) → CxAt t' C p
  | [], _, _, _ => trivial
  | f :: C, p, ⟨⟨k1, k2, k3, k4⟩, k5⟩, hn => by
    have hp := hn f.p (by simp [cxInners])
    obtain ⟨l1, l2⟩ := h.left k1 hp
    obtain ⟨r1, r2⟩ := h.right k1 hp
    refine ⟨⟨h.inOk k1 hp, ?_, ?_, h.at_ k4 (fun q hq => hn q (by simp [cxInners, hq]))⟩, h.cx k5 (fun q hq => hn q (by simp [cxInners, hq]))⟩
    · unfold Tr.br at k2 ⊢
      cases hlt : f.lt <;> rw [hlt] at k2 <;> simp only [Bool.false_eq_true, if_false, if_true] at k2 ⊢
      · rw [r1, r2]; exact k2
      · rw [l1, l2]; exact k2
    · unfold Tr.br' at k3 ⊢
      cases hlt : f.lt <;> rw [hlt] at k3 <;> simp only [Bool.false_eq_true, if_false, if_true] at k3 ⊢
      · rw [l1, l2]; exact k3
      · rw [r1, r2]; exact k3
theorem InOk.nd {t : Tr} {p : Nat} (h : InOk t p) (hl : t.ns.length ≤ 65536) : NdOk t p := ⟨h.lt, h.two, by have := h.lt; omega, by rw [h.cell]; have := h.two; omega, by rw [h.cell]; have := h.lt; omega⟩
theorem InOk.hlp {t : Tr} {x : Int} (h : ∀ i, t.live i = false) : HlpOk t x := fun e => by rw [h] at e; cases e
end Go.Proofs.Ytmhiolhgofackaa
namespace Go.Proofs.Ytmhiolhgofackaa
open Go.RowKit
set_option linter.unusedVariables false
set_option linter.unusedSimpArgs false

theorem OkRun.mono : ∀ {n m : Nat} {t : Tr} {c : Cl} {s : Stp} {t' : Tr} {c' : Cl}, OkRun n t c s t' c' → n ≤ m → OkRun m t c s t' c'
  | 0, _, _, _, _, _, _, h, _ => h.elim
  | n + 1, 0, _, _, _, _, _, _, hm => by omega
  | n + 1, m + 1, t, c, s, t', c', ⟨h1, h2, h3⟩, hm => by
    refine ⟨h1, h2, ?_⟩
    cases ho : (stepP t c s).2.2 with
    | none => rw [ho] at h3; exact h3
    | some s' => rw [ho] at h3; exact OkRun.mono h3 (by omega)
/-- what comes behind an outcome -/
def OkOut (n : Nat) (t : Tr) (o : Out) (t' : Tr) (c' : Cl) : Prop := match o.2 with
  | none => t = t' ∧ o.1 = c'
  | some s => OkRun n t o.1 s t' c'
theorem okRun_step {n : Nat} {t : Tr} {c : Cl} {s : Stp} {t' : Tr} {c' : Cl} (h1 : StepOk t c s) (h2 : Small t c) (h3 : OkOut n (stepP t c s).1 (stepP t c s).2 t' c') : OkRun (n + 1) t c s t' c' := ⟨h1, h2, h3⟩
/-- where a way ends, and what the call is then -/
def goesL (t : Tr) (m : Md) (p : Nat) (k : ByteArray) : Bool := match m with
  | .left => true
  | _ => (t.nd p).above k
def goC (t : Tr) (m : Md) : Cl → PT → Cl × Nat
  | c, .leaf p => (c, p)
  | c, .node p l r => if goesL t m p c.key then goC t m (c.toward t p m).1 l else goC t m (c.toward t p m).1 r
theorem Cl.toward_same {t t' : Tr} (h : SameC t t') (c : Cl) (n : Nat) (m : Md) : (c.toward t' n m).1 = (c.toward t n m).1 := by cases m <;> simp only [Cl.toward, h.nd]
theorem goesL_same {t t' : Tr} (h : SameC t t') (m : Md) (p : Nat) (k : ByteArray) : goesL t' m p k = goesL t m p k := by cases m <;> simp only [goesL, h.nd]
theorem goC_same {t t' : Tr} (h : SameC t t') (m : Md) : ∀ (T : PT) (c : Cl), goC t' m c T = goC t m c T := by
  intro T
  induction T with
  | leaf p => intro c; rfl
  | node p l r ihl ihr =>
    intro c
    show (if goesL t' m p c.key then goC t' m (c.toward t' p m).1 l else goC t' m (c.toward t' p m).1 r) = (if goesL t m p c.key then goC t m (c.toward t p m).1 l else goC t m (c.toward t p m).1 r)
    rw [Cl.toward_same h, goesL_same h, ihl, ihr]
theorem Cl.toward_key (t : Tr) (c : Cl) (n : Nat) (m : Md) : (c.toward t n m).1.key = c.key ∧ (c.toward t n m).1.kd = c.kd ∧ (c.toward t n m).1.val = c.val ∧ (c.toward t n m).1.full = c.full ∧ (c.toward t n m).1.ans = c.ans ∧ (c.toward t n m).1.path.length ≤ c.path.length + 1 := by
  cases m
  · exact ⟨rfl, rfl, rfl, rfl, rfl, Nat.le_succ _⟩
  · unfold Cl.toward; dsimp only; split <;> exact ⟨rfl, rfl, rfl, rfl, rfl, Nat.le_succ _⟩
  · exact ⟨rfl, rfl, rfl, rfl, rfl, Nat.le_succ _⟩
  · exact ⟨rfl, rfl, rfl, rfl, rfl, by simp [Cl.toward, Cl.pass]⟩
structure Room (t : Tr) (k : Nat) : Prop where
  cells : t.ms.c.length ≤ 65536
  ns : t.ns.length ≤ 65536
  asked : t.ms.n + k ≤ 1000000000
  ws : t.ws.length ≤ 800000000
theorem ask_n (t : Tr) (c : Int) : t.ms.n ≤ (t.ask c).ms.n ∧ (t.ask c).ms.n ≤ t.ms.n + 1 := by
  unfold Tr.ask MS.ask; dsimp only; split
  · exact ⟨Nat.le_succ _, Nat.le_refl _⟩
  · exact ⟨Nat.le_refl _, Nat.le_succ _⟩
theorem Room.same {t t' : Tr} {k j : Nat} (h : Room t (k + j)) (hs : SameC t t') (hn : t'.ms.n ≤ t.ms.n + j) : Room t' k := ⟨by rw [hs.c]; exact h.cells, by rw [hs.ns]; exact h.ns, by have := h.asked; omega, by rw [hs.ws]; exact h.ws⟩
theorem Room.small {t : Tr} {k : Nat} {c : Cl} (h : Room t k) (hp : c.path.length ≤ 1000000000) : Small t c := ⟨h.cells, by have := h.asked; omega, by have := h.ws; omega, hp⟩
theorem kid_lt {t : Tr} {T : PT} (h : At t T) : T.pl < t.ns.length := by
  cases T with
  | leaf p => exact h.1
  | node p l r => exact h.1.lt
theorem leaf_same {t t' : Tr} (h : SameC t t') (c : Cl) (l : Nat) (m : Md) : c.leaf t' l m = c.leaf t l m := by
  unfold Cl.leaf Cl.found
  simp only [h.nd, h.right]
theorem LeafOk.same {t t' : Tr} (h : SameC t t') {c : Cl} {l : Nat} {m : Md} (k : LeafOk t c l m) : LeafOk t' c l m := by
  obtain ⟨k1, k2, k3, k4, k5⟩ := k
  refine ⟨by rw [h.ns]; exact k1, k2, k3, fun a b => k4 a (by rw [← h.nd]; exact b), fun a b d => ?_⟩
  rw [h.nd] at d
  obtain ⟨p, hp, h1, h2, h3, h4, h5⟩ := k5 a b d
  exact ⟨p, hp, by rw [h.ns]; exact h1, h2, h3, by rw [h.nd]; exact h4, by rw [h.nd]; exact h5⟩
theorem desc_run (m : Md) : ∀ (F : PT) (t : Tr) (c : Cl) (b : Br) (k : Nat), At t F → t.kid b = F.pl → Room t (k + (F.depth + 1)) → c.path.length + F.depth ≤ 900000000 → MdOk c.kd m → LeafOk t (goC t m c F).1 (goC t m c F).2 m →
    ∃ t', SameC t t' ∧ t'.ms.n ≤ t.ms.n + (F.depth + 1) ∧ ∀ n T' C', OkOut n t' ((goC t m c F).1.leaf t (goC t m c F).2 m) T' C' → OkRun (F.depth + 1 + n) t c (.desc b m) T' C' := by
  intro F
  induction F with
  | leaf p =>
    intro t c b k hat hk hr hp hm hl
    refine ⟨t.ask b.cell, SameC.ask t _, ?_, fun n T' C' ho => ?_⟩
    · have := (ask_n t b.cell).2; simp [PT.depth]; omega
    · have hki : t.kid b = p := hk
      rw [show PT.depth (.leaf p) + 1 + n = n + 1 by simp [PT.depth]; omega]
      refine okRun_step ⟨hm, by rw [hki]; exact hat.1, by omega, (fun e => by rw [hki, hat.2] at e; cases e), fun _ => by rw [hki]; exact hl⟩ (hr.small (by omega)) ?_
      have e : (stepP t c (.desc b m)) = (t.ask b.cell, c.leaf t p m) := by
        show (t.ask b.cell, c.desc (t.ask b.cell) (t.kid b) m) = _
        unfold Cl.desc
        rw [hki, (SameC.ask t b.cell).nd, hat.2, if_neg (by simp), leaf_same (SameC.ask t b.cell)]
      rw [e]
      exact ho
  | node p l r ihl ihr =>
    intro t c b k hat hk hr hp hm hl
    have hki : t.kid b = p := hk
    obtain ⟨a1, a2, a3, a4, a5⟩ := hat
    have hs := SameC.ask t b.cell
    have hdep : PT.depth (.node p l r) = max l.depth r.depth + 1 := rfl
    have main : ∀ F', (∀ (t : Tr) (c : Cl) (b : Br) (k : Nat), At t F' → t.kid b = F'.pl → Room t (k + (F'.depth + 1)) → c.path.length + F'.depth ≤ 900000000 → MdOk c.kd m → LeafOk t (goC t m c F').1 (goC t m c F').2 m →
        ∃ t', SameC t t' ∧ t'.ms.n ≤ t.ms.n + (F'.depth + 1) ∧ ∀ n T' C', OkOut n t' ((goC t m c F').1.leaf t (goC t m c F').2 m) T' C' → OkRun (F'.depth + 1 + n) t c (.desc b m) T' C') →
        goC t m c (.node p l r) = goC t m (c.toward t p m).1 F' → F'.depth ≤ max l.depth r.depth → At t F' → t.kid (c.toward t p m).2 = F'.pl →
        ∃ t', SameC t t' ∧ t'.ms.n ≤ t.ms.n + (PT.depth (.node p l r) + 1) ∧ ∀ n T' C', OkOut n t' ((goC t m c (.node p l r)).1.leaf t (goC t m c (.node p l r)).2 m) T' C' → OkRun (PT.depth (.node p l r) + 1 + n) t c (.desc b m) T' C' := by
      intro F' ih hgo hd hat' hbr
      have hbs : (c.toward (t.ask b.cell) p m).2 = (c.toward t p m).2 := by
        cases m <;> simp only [Cl.toward, Tr.toward, hs.nd, hs.left, hs.right]
      obtain ⟨q1, q2, q3, q4, q5, q6⟩ := Cl.toward_key t c p m
      have hn1 := (ask_n t b.cell).2
      rw [hgo] at hl ⊢
      have hrm : Room (t.ask b.cell) (k + (F'.depth + 1)) := Room.same (j := 1) ⟨hr.cells, hr.ns, by have := hr.asked; omega, hr.ws⟩ hs (by omega)
      obtain ⟨t', h1, h2, h3⟩ := ih (t.ask b.cell) (c.toward t p m).1 (c.toward t p m).2 k (hs.at_ hat') (by rw [hs.kid]; exact hbr) hrm (by omega) (by rw [q2]; exact hm) (by rw [goC_same hs]; exact hl.same hs)
      refine ⟨t', hs.trans h1, by omega, fun n T' C' ho => ?_⟩
      have hrun := h3 n T' C' (by rw [goC_same hs, leaf_same hs]; exact ho)
      refine OkRun.mono (n := F'.depth + 1 + n + 1) ?_ (by omega)
      refine okRun_step ⟨hm, by rw [hki]; exact a1.lt, by omega, fun _ => by rw [hki]; exact a1.nd hr.ns, (fun e => by rw [hki, a1.inner] at e; cases e)⟩ (hr.small (by omega)) ?_
      have e : (stepP t c (.desc b m)) = (t.ask b.cell, (c.toward t p m).1, some (.desc (c.toward t p m).2 m)) := by
        show (t.ask b.cell, c.desc (t.ask b.cell) (t.kid b) m) = _
        unfold Cl.desc
        rw [hki, hs.nd, a1.inner, if_pos rfl, hbs, Cl.toward_same hs]
      rw [e]
      exact hrun
    have hgo : goC t m c (.node p l r) = if goesL t m p c.key then goC t m (c.toward t p m).1 l else goC t m (c.toward t p m).1 r := rfl
    cases hg : goesL t m p c.key
    · rw [hg, if_neg Bool.false_ne_true] at hgo
      refine main r ihr hgo (Nat.le_max_right _ _) a5 ?_
      cases m <;> simp only [goesL] at hg <;> simp only [Cl.toward, Tr.toward, hg, Bool.false_eq_true, if_false] <;> first | exact a3 | cases hg
    · rw [hg, if_pos rfl] at hgo
      refine main l ihl hgo (Nat.le_max_left _ _) a4 ?_
      cases m <;> simp only [goesL] at hg <;> simp only [Cl.toward, Tr.toward, hg, if_true] <;> exact a2
end Go.Proofs.Ytmhiolhgofackaa
namespace Go.Proofs.Ytmhiolhgofackaa
open Go.RowKit
set_option linter.unusedVariables false
set_option linter.unusedSimpArgs false

def pathOf (C : List Fm) : List Ps := (C.map fun f => (⟨f.p, false, 0⟩ : Ps)).reverse
/-- each frame's hole is where the key leads -/
def Sides (t : Tr) (k : ByteArray) (C : List Fm) : Prop := ∀ f ∈ C, f.lt = (t.nd f.p).above k
theorem goC_way (t : Tr) : ∀ (F : PT) (f : Fm) (C : List Fm) (c : Cl), c.path = pathOf (f :: C) → Sides t c.key (f :: C) →
    ∃ f1 C1 l, goC t .way c F = ({ c with path := pathOf (f1 :: C1) }, l) ∧ plug (f1 :: C1) (.leaf l) = plug (f :: C) F ∧ Sides t c.key (f1 :: C1) ∧ (f1 :: C1).getLast? = (f :: C).getLast? ∧ f1.sib.depth ≤ max f.sib.depth F.depth := by
  intro F
  induction F with
  | leaf p => intro f C c hp hs; exact ⟨f, C, p, by rw [← hp]; rfl, rfl, hs, rfl, Nat.le_max_left _ _⟩
  | node p l r ihl ihr =>
    intro f C c hp hs
    have hgo : goC t .way c (.node p l r) = if (t.nd p).above c.key then goC t .way (c.pass p) l else goC t .way (c.pass p) r := rfl
    have main : ∀ (F' : PT) (g : Fm), g.p = p → g.lt = (t.nd p).above c.key → g.fill F' = .node p l r → F'.depth ≤ max l.depth r.depth → g.sib.depth ≤ max l.depth r.depth →
        (∀ (f : Fm) (C : List Fm) (c : Cl), c.path = pathOf (f :: C) → Sides t c.key (f :: C) → ∃ f1 C1 l, goC t .way c F' = ({ c with path := pathOf (f1 :: C1) }, l) ∧ plug (f1 :: C1) (.leaf l) = plug (f :: C) F' ∧ Sides t c.key (f1 :: C1) ∧ (f1 :: C1).getLast? = (f :: C).getLast? ∧ f1.sib.depth ≤ max f.sib.depth F'.depth) →
        goC t .way c (.node p l r) = goC t .way (c.pass p) F' → ∃ f1 C1 l', goC t .way c (.node p l r) = ({ c with path := pathOf (f1 :: C1) }, l') ∧ plug (f1 :: C1) (.leaf l') = plug (f :: C) (.node p l r) ∧ Sides t c.key (f1 :: C1) ∧ (f1 :: C1).getLast? = (f :: C).getLast? ∧ f1.sib.depth ≤ max f.sib.depth (PT.depth (.node p l r)) := by
      intro F' g hgp hgl hgf hd hgs ih hg
      obtain ⟨f1, C1, l', h1, h2, h3, h4, h5⟩ := ih g (f :: C) (c.pass p) (by simp [Cl.pass, hp, pathOf, hgp]) (by
        intro x hx
        rcases List.mem_cons.1 hx with rfl | hx
        · rw [hgp]; exact hgl
        · exact hs x hx)
      have hdep : PT.depth (.node p l r) = max l.depth r.depth + 1 := rfl
      refine ⟨f1, C1, l', by rw [hg, h1]; rfl, ?_, h3, by rw [h4]; simp, by omega⟩
      rw [h2]
      show plug (f :: C) (g.fill F') = _
      rw [hgf]
    cases hab : (t.nd p).above c.key
    · rw [hab, if_neg Bool.false_ne_true] at hgo
      exact main r ⟨p, false, l⟩ rfl hab.symm rfl (Nat.le_max_right _ _) (Nat.le_max_left _ _) ihr hgo
    · rw [hab, if_pos rfl] at hgo
      exact main l ⟨p, true, r⟩ rfl hab.symm rfl (Nat.le_max_left _ _) (Nat.le_max_right _ _) ihl hgo
def topF : Fm := ⟨2, true, .leaf 1⟩
/-- under the top -/
theorem plug_top : ∀ (C : List Fm) (X : PT), C.getLast? = some topF → ∃ L, plug C X = .node 2 L (.leaf 1)
  | [], X, h => by cases h
  | [f], X, h => by simp at h; subst h; exact ⟨X, rfl⟩
  | f :: g :: C, X, h => plug_top (g :: C) (f.fill X) (by simpa using h)
/-! cells -/
theorem MS.at_put (m : MS) (a v x : Int) : (m.put a v).at x = if x = a ∧ m.has a = true then v else m.at x := by
  unfold MS.put
  by_cases h : m.has a = true
  · rw [if_pos h]
    obtain ⟨k, rfl, hk⟩ := MS.has_true h
    by_cases he : x = (k : Int)
    · subst he
      rw [if_pos ⟨rfl, h⟩]
      unfold MS.at MS.has
      simp [List.getD_eq_getElem?_getD, hk]
    · rw [if_neg (fun e => he e.1)]
      have hh : (⟨m.c.set (k : Int).toNat v, m.n + 1⟩ : MS).has x = m.has x := by unfold MS.has; simp
      unfold MS.at
      rw [hh]
      cases hx : m.has x
      · rfl
      · obtain ⟨q, rfl, hq⟩ := MS.has_true hx
        have : k ≠ q := by omega
        simp [List.getD_eq_getElem?_getD, List.getElem?_set, this]
  · rw [if_neg h, if_neg (fun e => h e.2)]
theorem MS.at_ask (m : MS) (a x : Int) : (m.ask a).at x = m.at x := by unfold MS.ask; split <;> rfl
theorem MS.at_cas (m : MS) (a o v x : Int) : (m.cas a o v).at x = if x = a ∧ m.casB a o = true then v else m.at x := by
  unfold MS.cas MS.casB
  by_cases h : m.at a = o
  · rw [if_pos h, MS.at_put]
    simp [h]
  · rw [if_neg h, MS.at_ask, if_neg (by simp [h])]
theorem MS.cas_n (m : MS) (a o v : Int) : m.n ≤ (m.cas a o v).n ∧ (m.cas a o v).n ≤ m.n + 1 := by
  unfold MS.cas MS.put MS.ask
  split <;> split <;> simp
theorem MS.cas_mem {m : MS} {a o v : Int} (hv : IsU v) (h : ∀ x ∈ m.c, IsU x) : ∀ x ∈ (m.cas a o v).c, IsU x := by
  unfold MS.cas MS.put MS.ask
  intro x hx
  split at hx <;> split at hx
  · rcases List.mem_or_eq_of_mem_set hx with h1 | rfl
    · exact h x h1
    · exact hv
  · exact h x hx
  · exact h x hx
  · exact h x hx
theorem isU_packW (s i : Int) : IsU (packW s i) := by unfold IsU packW; omega
theorem isU_u64 (x : Int) : IsU (u64 x) := by unfold IsU u64; omega
/-- a child as it stands -/
theorem kid_cas {t : Tr} {b : Br} {p : Nat} (hk : t.kid b = p) (hu : IsU (t.ms.at b.cell)) (h : t.ms.has b.cell = true) : t.ms.casB b.cell (u64 (p - b.first)) = true := by
  unfold MS.casB
  rw [h, Bool.true_and]
  apply decide_eq_true
  unfold Tr.kid at hk
  have : (((b.first + t.ms.at b.cell) % 18446744073709551616).toNat : Int) = (b.first + t.ms.at b.cell) % 18446744073709551616 := Int.toNat_of_nonneg (by omega)
  rw [hk] at this
  obtain ⟨u0, u1⟩ := hu
  unfold u64
  omega
theorem kid_new {t : Tr} {b : Br} {q : Nat} (hq : q < 18446744073709551616) (h : t.ms.at b.cell = u64 (q - b.first)) : t.kid b = q := by
  unfold Tr.kid
  rw [h]
  unfold u64
  have : (b.first + ((q : Int) - b.first) % 18446744073709551616) % 18446744073709551616 = q := by omega
  rw [this]
  exact Int.toNat_natCast q
end Go.Proofs.Ytmhiolhgofackaa
namespace Go.Proofs.Ytmhiolhgofackaa
open Go.RowKit
set_option linter.unusedVariables false
set_option linter.unusedSimpArgs false

theorem MS.at_grow (m : MS) (n x : Int) : (m.grow n).at x = m.at x := by
  unfold MS.grow
  split
  · unfold MS.at MS.has
    simp only [List.length_append, List.length_replicate]
    by_cases h : 0 ≤ x ∧ x < m.c.length
    · rw [if_pos (by simp; omega), if_pos (by simpa using h)]
      have : x.toNat < m.c.length := by omega
      simp [List.getD_eq_getElem?_getD, List.getElem?_append_left this]
    · rw [if_neg (c := decide (0 ≤ x ∧ x < (m.c.length : Int)) = true) (by simpa using h)]
      split
      · rename_i h2
        have h3 : 0 ≤ x ∧ x < ((m.c.length + n.toNat : Nat) : Int) := of_decide_eq_true h2
        have : m.c.length ≤ x.toNat := by omega
        rw [List.getD_eq_getElem?_getD, List.getElem?_append_right this, List.getElem?_replicate]
        split <;> rfl
      · rfl
  · rfl
theorem MS.has_cas (m : MS) (a o v x : Int) : (m.cas a o v).has x = m.has x := by unfold MS.has; rw [MS.cas_len]
theorem up_pathOf {c : Cl} {f : Fm} {C : List Fm} (h : c.path = pathOf (f :: C)) : c.up 0 = ⟨f.p, false, 0⟩ := by
  unfold Cl.up
  rw [h]
  simp [pathOf, List.getD_eq_getElem?_getD, List.getElem?_append_right]
theorem up1_pathOf {c : Cl} {f g : Fm} {C : List Fm} (h : c.path = pathOf (f :: g :: C)) : c.up 1 = ⟨g.p, false, 0⟩ := by
  unfold Cl.up
  rw [h]
  simp [pathOf, List.getD_eq_getElem?_getD, List.getElem?_append_left, List.getElem?_append_right]
theorem saw_up {c : Cl} (h : c.path ≠ []) (w : Int) : (c.saw w).up 0 = ⟨(c.up 0).node, true, w⟩ := by
  have := List.length_pos_iff.2 h
  unfold Cl.saw
  unfold Cl.up
  simp [List.getD_eq_getElem?_getD]
  rw [List.getElem?_set_self (by omega)]
  rfl
theorem pathOf_len (C : List Fm) : (pathOf C).length = C.length := by simp [pathOf]
theorem pathOf_in {C : List Fm} {p : Ps} (h : p ∈ pathOf C) : ∃ f ∈ C, p = ⟨f.p, false, 0⟩ := by
  unfold pathOf at h
  rw [List.mem_reverse, List.mem_map] at h
  obtain ⟨f, hf, rfl⟩ := h
  exact ⟨f, hf, rfl⟩
theorem CxAt.inOk {t : Tr} : ∀ {C : List Fm} {h : Nat}, CxAt t C h → ∀ f ∈ C, InOk t f.p
  | f :: C, h, ⟨h1, h2⟩, g, hg => by
    rcases List.mem_cons.1 hg with rfl | hg
    · exact h1.1
    · exact CxAt.inOk h2 g hg
theorem cx_len {C : List Fm} : C.length ≤ (cxInners C).length := by
  induction C with
  | nil => exact Nat.le_refl _
  | cons f C ih => simp [cxInners]; omega
theorem nodup_len {l : List Nat} {n : Nat} (h : l.Nodup) (hb : ∀ x ∈ l, x < n) : l.length ≤ n := by
  have hsub : l ⊆ List.range n := fun x hx => List.mem_range.2 (hb x hx)
  have := List.Nodup.length_le_of_subset h hsub
  simpa using this
theorem at_inners {t : Tr} : ∀ {T : PT}, At t T → ∀ p ∈ T.inners, InOk t p
  | .leaf p, _, q, hq => by simp [PT.inners] at hq
  | .node p l r, ⟨h1, _, _, h4, h5⟩, q, hq => by
    simp only [PT.inners, List.mem_cons, List.mem_append] at hq
    rcases hq with rfl | hq | hq
    · exact h1
    · exact at_inners h4 q hq
    · exact at_inners h5 q hq
/-- a quiet tree as a context and what stands in it -/
structure QC (t : Tr) (f : Fm) (C : List Fm) (X : PT) : Prop where
  cx : CxAt t (f :: C) X.pl
  x : At t X
  nodup : (cxInners (f :: C) ++ X.inners).Nodup
  top : (f :: C).getLast? = some topF
theorem Quiet.qc {t : Tr} {L : PT} (h : Quiet t L) {f : Fm} {C : List Fm} {X : PT} (hp : plug (f :: C) X = .node 2 L (.leaf 1)) (htop : (f :: C).getLast? = some topF) : QC t f C X := by
  have h1 := h.at_
  rw [← hp, at_plug] at h1
  refine ⟨h1.1, h1.2, ?_, htop⟩
  have h2 := h.nodup
  rw [← hp] at h2
  exact (plug_inners (f :: C) X).nodup_iff.1 h2
theorem has_cell {t : Tr} {p : Nat} (h : InOk t p) (hl : t.ms.c.length = t.ns.length) (i : Int) (h0 : 0 ≤ i) (h1 : i < 3) : t.ms.has ((t.nd p).cell + i) = true := by
  unfold MS.has
  apply decide_eq_true
  rw [h.cell, hl]
  have := h.lt
  have := h.two
  constructor
  · omega
  · omega
/-- cells of another node are others -/
theorem cell_ne {t : Tr} {p q : Nat} (hp : InOk t p) (hq : InOk t q) (hn : p ≠ q) {i j : Int} (i0 : 0 ≤ i) (i1 : i < 3) (j0 : 0 ≤ j) (j1 : j < 3) : (t.nd p).cell + i ≠ (t.nd q).cell + j := by
  rw [hp.cell, hq.cell]
  have := hp.mod
  have := hq.mod
  omega
end Go.Proofs.Ytmhiolhgofackaa
namespace Go.Proofs.Ytmhiolhgofackaa
open Go.RowKit
set_option linter.unusedVariables false
set_option linter.unusedSimpArgs false

theorem CxAt.same {t t' : Tr} (h : SameC t t') : ∀ {C : List Fm} {p : Nat}, CxAt t C p → CxAt t' C p
  | [], _, _ => trivial
  | f :: C, p, ⟨⟨k1, k2, k3, k4⟩, k5⟩ => by
    refine ⟨⟨h.inOk k1, ?_, ?_, h.at_ k4⟩, CxAt.same h k5⟩
    · unfold Tr.br at k2 ⊢; rw [h.left, h.right, h.kid]; exact k2
    · unfold Tr.br' at k3 ⊢; rw [h.left, h.right, h.kid]; exact k3
theorem br_toward {t : Tr} {f : Fm} {k : ByteArray} (h : f.lt = (t.nd f.p).above k) : t.toward f.p k = t.br f ∧ t.beside f.p k = t.br' f := by
  unfold Tr.toward Tr.beside Tr.br Tr.br'
  rw [h]
  exact ⟨rfl, rfl⟩
theorem br_cell {t : Tr} (f : Fm) : (t.br f).cell = (t.nd f.p).cell + (if f.lt then 1 else 2) := by
  unfold Tr.br Tr.left Tr.right; cases f.lt <;> rfl
theorem at_has {m : MS} {x : Int} (h : m.has x = false) : m.at x = 0 := by unfold MS.at; rw [if_neg (by rw [h]; simp)]
theorem isu_at {t : Tr} {L : PT} (h : Quiet t L) (x : Int) : IsU (t.ms.at x) := isU_at h.isu x
theorem split_ns (t : Tr) (l : Nat) (k : ByteArray) (v : Int) : ∃ lo hi : Nd, lo.inner = (t.nd l).inner ∧ hi.inner = (t.nd l).inner ∨ (lo.inner = false ∧ hi.inner = (t.nd l).inner) ∨ (lo.inner = (t.nd l).inner ∧ hi.inner = false) := ⟨t.nd l, t.nd l, Or.inl ⟨rfl, rfl⟩⟩
def lowN (t : Tr) (l : Nat) (k : ByteArray) (v : Int) : Nd := if (t.nd l).above k then leafOf k v else t.nd l
def highN (t : Tr) (l : Nat) (k : ByteArray) (v : Int) : Nd := if (t.nd l).above k then t.nd l else leafOf k v
theorem split_eq (t : Tr) (l : Nat) (k : ByteArray) (v : Int) : t.split l k v = t.join (lowN t l k v) (highN t l k v) := by
  unfold Tr.split lowN highN
  by_cases h : (t.nd l).above k = true
  · rw [if_pos h, if_pos h, if_pos h]
  · rw [if_neg h, if_neg h, if_neg h]
theorem join_nd {t : Tr} {lo hi : Nd} : (∀ p, p < t.ns.length → (t.join lo hi).nd p = t.nd p) ∧ (t.join lo hi).nd t.ns.length = lo ∧ (t.join lo hi).nd (t.ns.length + 1) = hi ∧ (t.join lo hi).nd (t.ns.length + 2) = ⟨true, hi.fin, hi.key, 0, t.ms.c.length⟩ ∧ (t.join lo hi).ns.length = t.ns.length + 3 := by
  refine ⟨fun p hp => ?_, ?_, ?_, ?_, by simp [Tr.join]⟩
  · unfold Tr.nd Tr.join; simp [List.getD_eq_getElem?_getD, List.getElem?_append_left hp]
  · unfold Tr.nd Tr.join; simp [List.getD_eq_getElem?_getD]
  · unfold Tr.nd Tr.join; simp [List.getD_eq_getElem?_getD]
  · unfold Tr.nd Tr.join; simp [List.getD_eq_getElem?_getD]
/-- what an Insert leaves -/
def insT (t : Tr) (f : Fm) (l : Nat) (k : ByteArray) (v : Int) : Tr :=
  let i := t.ws.length + 1
  let nx := t.ns.length + 2
  let t4 := (t.begin ⟨1, k, f.p, l, some nx, 0⟩ (t.ms.at (t.word f.p))).split l k v
  let t5 := t4.turn (t4.toward f.p k) l nx
  (t5.cas (t.word f.p) (packW 1 i) (packW 0 i)).done i
theorem begin_casB {t : Tr} {f : Fm} (h : InOk t f.p) (hl : t.ms.c.length = t.ns.length) : t.ms.casB (t.word f.p) (t.ms.at (t.word f.p)) = true := by
  unfold MS.casB
  have := has_cell h hl 0 (by omega) (by omega)
  rw [Int.add_zero] at this
  unfold Tr.word
  rw [this]
  simp
theorem ins_grow {t : Tr} {L : PT} (hq : Quiet t L) {f : Fm} {C : List Fm} {l : Nat} (hp1 : plug (f :: C) (.leaf l) = .node 2 L (.leaf 1)) (htop : (f :: C).getLast? = some topF) {c : Cl} (hk : c.kd = .ins) (hne : c.path ≠ []) (hup : c.up 0 = ⟨f.p, true, t.ms.at (t.word f.p)⟩) (hov : c.over = none)
    (hpin : ∀ p ∈ c.path, p.node < t.ns.length) (hpl : c.path.length ≤ 65536) (hr : Room t 8) (hroom : t.room = true) (hn6 : t.ns.length ≤ 60000) :
    OkRun 3 t c (.grow l) (insT t f l c.key c.val) (c.tell ⟨true, c.key, c.val, 0⟩) := by
  have hqc := hq.qc hp1 htop
  have hx : LfOk t l := hqc.x
  obtain ⟨⟨f1, f2, f3, f4⟩, f5⟩ := hqc.cx
  have hcas := begin_casB f1 hq.len
  have i2 : InOk t 2 := at_inners hq.at_ 2 (by simp [PT.inners])
  obtain ⟨nx, hnx⟩ : ∃ nx, nx = t.ns.length + 2 := ⟨_, rfl⟩
  obtain ⟨o, ho⟩ : ∃ o : Wk, o = ⟨1, c.key, f.p, l, some nx, 0⟩ := ⟨_, rfl⟩
  obtain ⟨t4, ht4⟩ : ∃ t4, t4 = (t.begin o (t.ms.at (t.word f.p))).split l c.key c.val := ⟨_, rfl⟩
  have hbo := begin_ok (t := t) (o := o) (s := t.ms.at (t.word f.p)) (by rw [ho]; exact hcas)
  obtain ⟨z1, z2, z3⟩ := split_same (t.begin o (t.ms.at (t.word f.p))) l c.key c.val
  rw [← ht4] at z1 z2 z3
  have hws : t4.ws = t.ws ++ [o] := by rw [z1, hbo]; rfl
  have hbn : (t.begin o (t.ms.at (t.word f.p))).ns = t.ns := begin_ns _ _ _
  rw [hbn] at z3
  have hnd4 : ∀ p, p < t.ns.length → t4.nd p = t.nd p := fun p hp => by
    rw [ht4, split_eq, join_nd.1 p (by rw [hbn]; exact hp)]
    unfold Tr.nd; rw [hbn]
  have hms4 : t4.ms = (t.ms.cas (t.word f.p) (t.ms.at (t.word f.p)) (packW 1 (t.ws.length + 1))).grow 3 := by
    rw [ht4, split_eq, hbo, ho]; rfl
  have hwk : t4.wk (t.ws.length + 1) = o := by unfold Tr.wk; rw [hws]; simp [List.getD_eq_getElem?_getD]
  have hn4 : t4.ms.n ≤ t.ms.n + 1 := by
    rw [hms4]
    have := (MS.cas_n t.ms (t.word f.p) (t.ms.at (t.word f.p)) (packW 1 (t.ws.length + 1))).2
    unfold MS.grow; split <;> exact this
  have hl4 : t4.ms.c.length ≤ 65536 := by
    rw [hms4]
    have hr3 : t.ms.c.length ≤ 65533 := by unfold Tr.room at hroom; exact of_decide_eq_true hroom
    unfold MS.grow; split
    · simp [MS.cas_len]; omega
    · rw [MS.cas_len]; omega
  have e1 : stepP t c (.grow l) = (t4, c, some (.take (t.ws.length + 1) nx (.told l))) := by
    show (if t.room = true then _ else _) = _
    rw [if_pos hroom]
    show (if t.ms.casB (t.word (c.up 0).node) (c.up 0).seen = true then _ else _) = _
    rw [hup]
    dsimp only
    rw [if_pos hcas, ht4, ho, hnx]
  have hno : NdOk t4 f.p := by
    have := f1.nd hr.ns
    exact ⟨by rw [z3]; have := this.1; omega, this.2.1, this.2.2.1, by rw [hnd4 _ f1.lt]; exact this.2.2.2.1, by rw [hnd4 _ f1.lt]; exact this.2.2.2.2⟩
  have hwko : WkOk t4 (t.ws.length + 1) := ⟨by omega, by rw [hws]; simp, by rw [hwk, ho]; exact hno, by rw [hwk, ho, z3]; have := hx.1; dsimp only; omega⟩
  obtain ⟨t5, ht5⟩ : ∃ t5, t5 = t4.turn (t4.toward f.p c.key) l nx := ⟨_, rfl⟩
  have e2 : stepP t4 c (.take (t.ws.length + 1) nx (.told l)) = (t5, c, some (.fin (t.ws.length + 1) (.told l))) := by
    show (t4.turn (t4.toward (t4.wk (t.ws.length + 1)).at_ (t4.wk (t.ws.length + 1)).key) (t4.wk (t.ws.length + 1)).old nx, c, _) = _
    rw [hwk, ho, ht5]
  have h5ns : t5.ns = t4.ns := by rw [ht5]; rfl
  have h5ws : t5.ws = t4.ws := by rw [ht5]; rfl
  have h5nd : ∀ p, t5.nd p = t4.nd p := fun p => by unfold Tr.nd; rw [h5ns]
  have h5wk : t5.wk (t.ws.length + 1) = o := by unfold Tr.wk; rw [h5ws]; exact hwk
  have h5n : t5.ms.n ≤ t4.ms.n + 1 := by rw [ht5]; exact (MS.cas_n _ _ _ _).2
  have h5c : t5.ms.c.length = t4.ms.c.length := by rw [ht5]; exact MS.cas_len ..
  have e3 : stepP t5 c (.fin (t.ws.length + 1) (.told l)) = (insT t f l c.key c.val, c.tell ⟨true, c.key, c.val, 0⟩, none) := by
    show ((t5.cas (t5.word (t5.wk (t.ws.length + 1)).at_) (packW (t5.wk (t.ws.length + 1)).state ((t.ws.length + 1 : Nat) : Int)) (packW 0 ((t.ws.length + 1 : Nat) : Int))).done (t.ws.length + 1), c.run t5 (.told l)) = _
    rw [h5wk]
    have hw : t5.word f.p = t.word f.p := by unfold Tr.word; rw [h5nd, hnd4 _ f1.lt]
    have hrun : c.run t5 (.told l) = (c.tell ⟨true, c.key, c.val, 0⟩, none) := by unfold Cl.run; dsimp only; rw [if_pos hk]
    rw [hrun, ho]
    dsimp only
    rw [hw]
    have e9 : insT t f l c.key c.val = ((t5.cas (t.word f.p) (packW 1 ((t.ws.length + 1 : Nat) : Int)) (packW 0 ((t.ws.length + 1 : Nat) : Int))).done (t.ws.length + 1)) := by
      rw [ht5, ht4, ho, hnx]; rfl
    rw [e9]
  have hsm : ∀ t' : Tr, t'.ms.c.length ≤ 65536 → t'.ms.n ≤ t.ms.n + 3 → t'.ws.length ≤ 900000000 → Small t' c := fun t' h1 h2 h3 => ⟨h1, by have := hr.asked; omega, h3, by omega⟩
  have hwl : t4.ws.length ≤ 900000000 := by rw [hws]; have := hr.ws; simp; omega
  refine okRun_step (n := 2) ⟨hk, hx.1, hne, by omega, by rw [hup]; exact f1.nd hr.ns, i2.nd hr.ns, hr.cells, by have := hr.asked; omega, by omega, hq.wks, (fun i hi => by rw [hq.live] at hi; cases hi), by have := hr.ws; omega, isu_at hq _, InOk.hlp hq.live, (fun e => by rw [hroom] at e; cases e), hpin, hov⟩ (hsm t hr.cells (by omega) (by have := hr.ws; omega)) ?_
  rw [e1]
  refine okRun_step (n := 1) ⟨hwko, by rw [z3, hnx]; omega⟩ (hsm t4 hl4 (by omega) hwl) ?_
  rw [e2]
  refine okRun_step (n := 0) ⟨⟨by omega, by rw [h5ws, hws]; simp, by rw [h5wk, ho]; exact ⟨by rw [h5ns]; exact hno.1, hno.2.1, hno.2.2.1, by rw [h5nd]; exact hno.2.2.2.1, by rw [h5nd]; exact hno.2.2.2.2⟩, by rw [h5wk, ho, h5ns, z3]; have := hx.1; dsimp only; omega⟩, Or.inl hk⟩ (hsm t5 (by rw [h5c]; exact hl4) (by omega) (by rw [h5ws]; exact hwl)) ?_
  rw [e3]
  exact ⟨rfl, rfl⟩
theorem ins_steps {t : Tr} {L : PT} (hq : Quiet t L) {f : Fm} {C : List Fm} {l : Nat} (hp1 : plug (f :: C) (.leaf l) = .node 2 L (.leaf 1)) (htop : (f :: C).getLast? = some topF) {c : Cl} (hk : c.kd = .ins) (hp : c.path = pathOf (f :: C)) (hfull : c.full = false) (hov : c.over = none)
    (hs : Sides t c.key (f :: C)) (hnh : (t.nd l).has c.key = false) (hr : Room t 10) (hroom : t.room = true) (hn6 : t.ns.length ≤ 60000) :
    ∃ t3 cz, SameC t t3 ∧ t3.ms.n ≤ t.ms.n + 2 ∧ cz.ans = ⟨true, c.key, c.val, 0⟩ ∧ OkRun 5 t c .look (insT t3 f l c.key c.val) cz := by
  have hqc := hq.qc hp1 htop
  have hcx := hqc.cx
  have hx : LfOk t l := hqc.x
  obtain ⟨⟨f1, f2, f3, f4⟩, f5⟩ := hcx
  have hup := up_pathOf hp
  have hne : c.path ≠ [] := by rw [hp]; simp [pathOf]
  have hplen : c.path.length ≤ 65536 := by
    rw [hp, pathOf_len]
    have h1 := cx_len (C := f :: C)
    have h2 : (cxInners (f :: C)).Nodup := (List.nodup_append.1 hqc.nodup).1
    have h3 : (cxInners (f :: C)).length ≤ t.ns.length := nodup_len h2 (fun x hx => by
      have h4 := at_inners hq.at_
      rw [← hp1] at h4
      exact (h4 x ((plug_inners (f :: C) (.leaf l)).mem_iff.2 (List.mem_append_left _ hx))).lt)
    omega
  obtain ⟨W, hW⟩ : ∃ W, W = t.ms.at (t.word f.p) := ⟨_, rfl⟩
  have hclean : W % 4 = 0 := by rw [hW]; exact f1.clean
  have hisu : IsU W := by rw [hW]; exact f1.isu
  -- look
  obtain ⟨t2, ht2⟩ : ∃ t2, t2 = t.ask (t.word f.p) := ⟨_, rfl⟩
  have s2 : SameC t t2 := by rw [ht2]; exact SameC.ask _ _
  have n2 : t2.ms.n ≤ t.ms.n + 1 := by rw [ht2]; exact (ask_n _ _).2
  obtain ⟨c2, hc2⟩ : ∃ c2, c2 = c.saw W := ⟨_, rfl⟩
  have e1 : stepP t c .look = (t2, c2, some .down) := by
    show (t.ask (t.word (c.up 0).node), c.met t (t.ms.at (t.word (c.up 0).node))) = _
    rw [hup]
    show (t.ask (t.word f.p), c.met t (t.ms.at (t.word f.p))) = _
    rw [← ht2, ← hW]
    unfold Cl.met
    rw [if_pos hclean, hc2]
  have up2 : c2.up 0 = ⟨f.p, true, W⟩ := by rw [hc2, saw_up hne, hup]
  have k2 : c2.kd = .ins ∧ c2.key = c.key ∧ c2.val = c.val ∧ c2.full = false ∧ c2.over = none ∧ c2.path.length = c.path.length := by rw [hc2]; exact ⟨hk, rfl, rfl, hfull, hov, by simp [Cl.saw]⟩
  have ne2 : c2.path ≠ [] := by
    intro e
    have h9 := k2.2.2.2.2.2
    rw [e] at h9
    exact hne (List.eq_nil_of_length_eq_zero h9.symm)
  -- down
  have hside := hs f (by simp)
  have hbr2 : t2.toward f.p c.key = t.br f := by
    unfold Tr.toward; rw [s2.nd, s2.left, s2.right]; exact (br_toward hside).1
  obtain ⟨t3, ht3⟩ : ∃ t3, t3 = t2.ask (t.br f).cell := ⟨_, rfl⟩
  have s3 : SameC t2 t3 := by rw [ht3]; exact SameC.ask _ _
  have n3 : t3.ms.n ≤ t.ms.n + 2 := by have := (ask_n t2 (t.br f).cell).2; rw [ht3]; omega
  have hkid2 : t2.kid (t.br f) = l := by rw [s2.kid]; exact f2
  have hinner : (t2.nd l).inner = false := by rw [s2.nd]; exact hx.2
  have e2 : stepP t2 c2 .down = (t3, c2, some (.grow l)) := by
    show (t2.ask (t2.toward (c2.up 0).node c2.key).cell, if (t2.nd (t2.kid (t2.toward (c2.up 0).node c2.key))).inner then _ else c2.leaf t2 (t2.kid (t2.toward (c2.up 0).node c2.key)) .way) = _
    rw [up2, k2.2.1]
    dsimp only
    rw [hbr2, hkid2, hinner, if_neg (by simp), ← ht3]
    unfold Cl.leaf
    rw [k2.1]
    dsimp only
    rw [s2.nd, k2.2.1, hnh, if_neg (by simp), k2.2.2.2.1, if_neg (by simp), up2, if_pos rfl]
  have s13 : SameC t t3 := s2.trans s3
  have hr1 : Room t3 8 := Room.same (j := 2) hr s13 (by omega)
  refine ⟨t3, c2.tell ⟨true, c.key, c.val, 0⟩, s13, n3, rfl, okRun_step (n := 4) ⟨Or.inl hk, hne, by rw [hup]; exact f1.nd hr.ns, by rw [hup]; exact isu_at hq _, InOk.hlp hq.live⟩ (hr.small (by omega)) ?_⟩
  · rw [e1]
    refine okRun_step (n := 3) ⟨Or.inl k2.1, ne2, by rw [up2]; exact (s2.inOk f1).nd (by rw [s2.ns]; exact hr.ns), ?_⟩ ((Room.same (k := 9) (j := 1) hr s2 (by omega)).small (by show c2.path.length ≤ _; omega)) ?_
    · rw [up2, k2.2.1]
      dsimp only
      rw [hbr2, hkid2]
      exact ⟨by rw [s2.ns]; exact hx.1, by omega, (fun e => by rw [hinner] at e; cases e), fun _ => ⟨by rw [s2.ns]; exact hx.1, by omega, fun _ => ne2, (fun e => by rw [k2.1] at e; cases e), (fun e => by rw [k2.1] at e; cases e)⟩⟩
    · rw [e2]
      have hq3 := s13.quiet hq
      have hw3 : t3.ms.at (t3.word f.p) = W := by rw [hW]; unfold Tr.word; rw [s13.nd, s13.atc]
      have hpin : ∀ p ∈ c2.path, p.node < t3.ns.length := by
        intro p hp9
        rw [s13.ns]
        have hin : ∀ x ∈ pathOf (f :: C), x.node < t.ns.length := fun x hx9 => by
          obtain ⟨g, hg, rfl⟩ := pathOf_in hx9
          exact (hqc.cx.inOk g hg).lt
        rw [hc2] at hp9
        unfold Cl.saw at hp9
        dsimp only at hp9
        rcases List.mem_or_eq_of_mem_set hp9 with h1 | h1
        · rw [hp] at h1; exact hin p h1
        · rw [h1]; dsimp only; rw [hup]; exact f1.lt
      have hroom3 : t3.room = true := by unfold Tr.room; rw [s13.c]; exact hroom
      have := ins_grow hq3 hp1 htop k2.1 ne2 (by rw [up2, hw3]) k2.2.2.2.2.1 hpin (by omega) hr1 hroom3 (by rw [s13.ns]; exact hn6)
      rw [k2.2.1, k2.2.2.1] at this
      exact this
end Go.Proofs.Ytmhiolhgofackaa
namespace Go.Proofs.Ytmhiolhgofackaa
open Go.RowKit
set_option linter.unusedVariables false
set_option linter.unusedSimpArgs false

theorem fill_last (f : Fm) (X : PT) : (f.fill X).last = if f.lt then f.sib.last else X.last := by unfold Fm.fill; cases f.lt <;> rfl
theorem last_plug : ∀ (C : List Fm) (X X' L L' : PT), C.getLast? = some topF → plug C X = .node 2 L (.leaf 1) → plug C X' = .node 2 L' (.leaf 1) → L'.last = L.last ∨ (L.last = X.last ∧ L'.last = X'.last)
  | [], _, _, _, _, h, _, _ => by cases h
  | [f], X, X', L, L', h, h1, h2 => by
    simp at h; subst h
    simp only [plug, Fm.fill, topF, if_true, PT.node.injEq, true_and, and_true] at h1 h2
    subst h1; subst h2
    exact Or.inr ⟨rfl, rfl⟩
  | f :: g :: C, X, X', L, L', h, h1, h2 => by
    rcases last_plug (g :: C) (f.fill X) (f.fill X') L L' (by simpa using h) h1 h2 with h3 | ⟨h3, h4⟩
    · exact Or.inl h3
    · rw [fill_last] at h3 h4
      cases hf : f.lt
      · rw [hf] at h3 h4
        exact Or.inr ⟨by simpa using h3, by simpa using h4⟩
      · rw [hf] at h3 h4
        simp only [if_true] at h3 h4
        exact Or.inl (by rw [h3, h4])
theorem grow_has (m : MS) (n x : Int) (h : m.has x = true) : (m.grow n).has x = true := by
  obtain ⟨k, rfl, hk⟩ := MS.has_true h
  unfold MS.grow
  split
  · unfold MS.has; apply decide_eq_true; simp; omega
  · exact h
theorem casB_of {m : MS} {a o : Int} (h : m.has a = true) (he : m.at a = o) : m.casB a o = true := by unfold MS.casB; rw [h, he]; simp
/-- the cells behind an Insert -/
theorem ins_cells {t : Tr} {L : PT} (hq : Quiet t L) {f : Fm} {C : List Fm} {l : Nat} (hp1 : plug (f :: C) (.leaf l) = .node 2 L (.leaf 1)) (htop : (f :: C).getLast? = some topF) (k : ByteArray) (v : Int) (hside : f.lt = (t.nd f.p).above k) (hroom : t.room = true) :
    (∀ x, (insT t f l k v).ms.at x = if x = (t.nd f.p).cell then packW 0 ((t.ws.length + 1 : Nat) : Int) else if x = (t.br f).cell then u64 (((t.ns.length + 2 : Nat) : Int) - (t.br f).first) else t.ms.at x) ∧
    (insT t f l k v).ns = t.ns ++ [lowN t l k v, highN t l k v, ⟨true, (highN t l k v).fin, (highN t l k v).key, 0, (t.ns.length : Int)⟩] ∧ (insT t f l k v).ms.c.length = t.ms.c.length + 3 ∧ (∀ x ∈ (insT t f l k v).ms.c, IsU x) ∧ (insT t f l k v).ms.n ≤ t.ms.n + 3 ∧
    (insT t f l k v).ws = t.ws ++ [⟨1, k, f.p, l, some (t.ns.length + 2), 0⟩] ∧ ∀ i, (insT t f l k v).live i = false := by
  have hqc := hq.qc hp1 htop
  obtain ⟨⟨f1, f2, f3, f4⟩, f5⟩ := hqc.cx
  have hcas := begin_casB f1 hq.len
  have hr3 : t.ms.c.length ≤ 65533 := by unfold Tr.room at hroom; exact of_decide_eq_true hroom
  obtain ⟨o, ho⟩ : ∃ o : Wk, o = ⟨1, k, f.p, l, some (t.ns.length + 2), 0⟩ := ⟨_, rfl⟩
  obtain ⟨W, hW⟩ : ∃ W, W = t.ms.at (t.word f.p) := ⟨_, rfl⟩
  have hbo := begin_ok (t := t) (o := o) (s := W) (by rw [ho, hW]; exact hcas)
  obtain ⟨w, hw⟩ : ∃ w, w = (t.nd f.p).cell := ⟨_, rfl⟩
  have hww : t.word f.p = w := by rw [hw]; rfl
  obtain ⟨m1, hm1⟩ : ∃ m1, m1 = t.ms.cas w W (packW 1 ((t.ws.length + 1 : Nat) : Int)) := ⟨_, rfl⟩
  have hbms : (t.begin o W).ms = m1 := by rw [hbo, ho, hm1]; show t.ms.cas (t.word f.p) W _ = _; rw [hww]; rfl
  have hbns : (t.begin o W).ns = t.ns := begin_ns _ _ _
  obtain ⟨t4, ht4⟩ : ∃ t4, t4 = (t.begin o W).split l k v := ⟨_, rfl⟩
  have hlow : lowN (t.begin o W) l k v = lowN t l k v ∧ highN (t.begin o W) l k v = highN t l k v := by
    unfold lowN highN Tr.nd; rw [hbns]; exact ⟨rfl, rfl⟩
  have hns4 : t4.ns = t.ns ++ [lowN t l k v, highN t l k v, ⟨true, (highN t l k v).fin, (highN t l k v).key, 0, (t.ns.length : Int)⟩] := by
    rw [ht4, split_eq, hlow.1, hlow.2]
    show (t.begin o W).ns ++ [_, _, (⟨true, _, _, 0, ((t.begin o W).ms.c.length : Int)⟩ : Nd)] = _
    rw [hbns, begin_len, hq.len]
  have hms4 : t4.ms = m1.grow 3 := by rw [ht4, split_eq]; show (t.begin o W).ms.grow 3 = _; rw [hbms]
  have hm1l : m1.c.length = t.ms.c.length := by rw [hm1]; exact MS.cas_len ..
  have hgok : m1.growOk 3 = true := by unfold MS.growOk; rw [hm1l]; simp; omega
  have hnd4 : ∀ p, p < t.ns.length → t4.nd p = t.nd p := fun p hp => by unfold Tr.nd; rw [hns4]; simp [List.getD_eq_getElem?_getD, List.getElem?_append_left hp]
  have hto : t4.toward f.p k = t.br f := by
    unfold Tr.toward Tr.left Tr.right; rw [hnd4 _ f1.lt, ← hside]; rfl
  have hhas : ∀ i : Int, 0 ≤ i → i < 3 → t.ms.has (w + i) = true := fun i i0 i1 => by rw [hw]; exact has_cell f1 hq.len i i0 i1
  have hw0 : t.ms.has w = true := by have := hhas 0 (by omega) (by omega); rwa [Int.add_zero] at this
  have hcas' : t.ms.casB w W = true := casB_of hw0 (by rw [hW, hww])
  have hb : (t.br f).cell = w + (if f.lt then 1 else 2) := by rw [br_cell, hw]
  have hbw : (t.br f).cell ≠ w := by rw [hb]; split <;> omega
  have hbhas : t.ms.has (t.br f).cell = true := by rw [hb]; split; exact hhas 1 (by omega) (by omega); exact hhas 2 (by omega) (by omega)
  have at4 : ∀ x, t4.ms.at x = if x = w then packW 1 ((t.ws.length + 1 : Nat) : Int) else t.ms.at x := fun x => by
    rw [hms4, MS.at_grow, hm1, MS.at_cas]
    by_cases e : x = w
    · rw [if_pos ⟨e, hcas'⟩, if_pos e]
    · rw [if_neg (fun h => e h.1), if_neg e]
  have has4 : ∀ x, t.ms.has x = true → t4.ms.has x = true := fun x hx => by rw [hms4]; exact grow_has _ _ _ (by rw [hm1, MS.has_cas]; exact hx)
  have hk4 : t4.kid (t.br f) = l := by
    unfold Tr.kid; rw [at4, if_neg hbw]; exact f2
  have hu4 : IsU (t4.ms.at (t.br f).cell) := by rw [at4, if_neg hbw]; exact isu_at hq _
  have hcas5 := kid_cas hk4 hu4 (has4 _ hbhas)
  obtain ⟨m5, hm5⟩ : ∃ m5, m5 = t4.ms.cas (t.br f).cell (u64 ((l : Int) - (t.br f).first)) (u64 (((t.ns.length + 2 : Nat) : Int) - (t.br f).first)) := ⟨_, rfl⟩
  have at5 : ∀ x, m5.at x = if x = (t.br f).cell then u64 (((t.ns.length + 2 : Nat) : Int) - (t.br f).first) else t4.ms.at x := fun x => by
    rw [hm5, MS.at_cas]
    by_cases e : x = (t.br f).cell
    · rw [if_pos ⟨e, hcas5⟩, if_pos e]
    · rw [if_neg (fun h => e h.1), if_neg e]
  have has5 : m5.has w = true := by rw [hm5, MS.has_cas]; exact has4 _ hw0
  have at5w : m5.at w = packW 1 ((t.ws.length + 1 : Nat) : Int) := by rw [at5, if_neg hbw.symm, at4, if_pos rfl]
  have hms6 : (insT t f l k v).ms = m5.cas w (packW 1 ((t.ws.length + 1 : Nat) : Int)) (packW 0 ((t.ws.length + 1 : Nat) : Int)) := by
    have e1 : (insT t f l k v).ms = (t4.turn (t4.toward f.p k) l (t.ns.length + 2)).ms.cas (t.word f.p) (packW 1 ((t.ws.length + 1 : Nat) : Int)) (packW 0 ((t.ws.length + 1 : Nat) : Int)) := by rw [ht4, hW, ho]; rfl
    rw [e1, hto, hww, hm5]
    rfl
  have hns6 : (insT t f l k v).ns = t4.ns := by rw [ht4, hW, ho]; rfl
  have hws6 : (insT t f l k v).ws = t4.ws := by rw [ht4, hW, ho]; rfl
  obtain ⟨z1, z2, z3⟩ := split_same (t.begin o W) l k v
  rw [← ht4] at z1 z2 z3
  refine ⟨fun x => ?_, by rw [hns6, hns4], ?_, ?_, ?_, by rw [hws6, z1, hbo, ← ho]; rfl, fun i => ?_⟩
  · rw [hms6, MS.at_cas]
    rw [← hw]
    by_cases e : x = w
    · rw [if_pos ⟨e, casB_of has5 at5w⟩, if_pos e]
    · rw [if_neg (fun h => e h.1), if_neg e, at5]
      by_cases e2 : x = (t.br f).cell
      · rw [if_pos e2, if_pos e2]
      · rw [if_neg e2, if_neg e2, at4, if_neg e]
  · rw [hms6, MS.cas_len, hm5, MS.cas_len, hms4]
    unfold MS.grow; rw [if_pos hgok]; simp [hm1l]
  · rw [hms6]
    refine MS.cas_mem (isU_packW _ _) ?_
    rw [hm5]
    refine MS.cas_mem (isU_u64 _) ?_
    rw [hms4]
    unfold MS.grow; rw [if_pos hgok]
    intro x hx
    rcases List.mem_append.1 hx with h1 | h1
    · rw [hm1] at h1
      exact MS.cas_mem (isU_packW _ _) hq.isu x h1
    · rw [(List.mem_replicate.1 h1).2]; exact ⟨Int.le_refl _, by decide⟩
  · rw [hms6]
    have h1 := (MS.cas_n m5 w (packW 1 ((t.ws.length + 1 : Nat) : Int)) (packW 0 ((t.ws.length + 1 : Nat) : Int))).2
    have h2 := (MS.cas_n t4.ms (t.br f).cell (u64 ((l : Int) - (t.br f).first)) (u64 (((t.ns.length + 2 : Nat) : Int) - (t.br f).first))).2
    rw [← hm5] at h2
    have h3 : t4.ms.n ≤ t.ms.n + 1 := by
      rw [hms4]
      have := (MS.cas_n t.ms w W (packW 1 ((t.ws.length + 1 : Nat) : Int))).2
      rw [← hm1] at this
      unfold MS.grow; rw [if_pos hgok]; exact this
    omega
  · have e1 : (insT t f l k v).live = fun j => if j = t.ws.length + 1 then false else t4.live j := by rw [ht4, hW, ho]; rfl
    rw [e1]
    dsimp only
    by_cases e : i = t.ws.length + 1
    · rw [if_pos e]
    · rw [if_neg e, z2, hbo]
      show (if i = t.ws.length + 1 then true else t.live i) = false
      rw [if_neg e]; exact hq.live i
end Go.Proofs.Ytmhiolhgofackaa
namespace Go.Proofs.Ytmhiolhgofackaa
open Go.RowKit
set_option linter.unusedVariables false
set_option linter.unusedSimpArgs false

/-- cells of two inner nodes' turned: the rest stays -/
theorem more_of {t t' : Tr} {S : List Nat} (hns : ∃ l, t'.ns = t.ns ++ l) (hat : ∀ p, InOk t p → p ∉ S → ∀ i : Int, 0 ≤ i → i < 3 → t'.ms.at ((t.nd p).cell + i) = t.ms.at ((t.nd p).cell + i)) : More S t t' := by
  obtain ⟨l, hl⟩ := hns
  refine ⟨by rw [hl]; simp, fun p hp => ?_, hat⟩
  unfold Tr.nd; rw [hl]; simp [List.getD_eq_getElem?_getD, List.getElem?_append_left hp]
theorem br_in {t : Tr} (f : Fm) : (t.br f).cell = (t.nd f.p).cell + 1 ∨ (t.br f).cell = (t.nd f.p).cell + 2 := by rw [br_cell]; split; exact Or.inl rfl; exact Or.inr rfl
theorem br_first {t : Tr} (f : Fm) (h : 2 ≤ f.p) : 0 ≤ (t.br f).first ∧ (t.br f).first ≤ f.p := by
  unfold Tr.br Tr.left Tr.right; split <;> dsimp only <;> omega
theorem packW_mod (s i : Int) : packW s i % 4 = s % 4 := by unfold packW; omega
theorem ins_quiet {t : Tr} {L : PT} (hq : Quiet t L) {f : Fm} {C : List Fm} {l : Nat} (hp1 : plug (f :: C) (.leaf l) = .node 2 L (.leaf 1)) (htop : (f :: C).getLast? = some topF) (k : ByteArray) (v : Int) (hside : f.lt = (t.nd f.p).above k) (hroom : t.room = true) (hn6 : t.ns.length ≤ 60000) :
    ∃ L', Quiet (insT t f l k v) L' ∧ plug (f :: C) (.node (t.ns.length + 2) (.leaf t.ns.length) (.leaf (t.ns.length + 1))) = .node 2 L' (.leaf 1) ∧ More [f.p] t (insT t f l k v) := by
  obtain ⟨cat, cns, clen, cisu, cn, cws, clive⟩ := ins_cells hq hp1 htop k v hside hroom
  have hqc := hq.qc hp1 htop
  have hx : LfOk t l := hqc.x
  obtain ⟨⟨f1, f2, f3, f4⟩, f5⟩ := hqc.cx
  obtain ⟨t6, ht6⟩ : ∃ t6, t6 = insT t f l k v := ⟨_, rfl⟩
  rw [← ht6] at cat cns clen cisu cn cws clive ⊢
  obtain ⟨n, hn⟩ : ∃ n, n = t.ns.length := ⟨_, rfl⟩
  rw [← hn] at cat cns ⊢
  obtain ⟨X', hX'⟩ : ∃ X', X' = PT.node (n + 2) (.leaf n) (.leaf (n + 1)) := ⟨_, rfl⟩
  rw [← hX']
  have hns3 : t6.ns.length = n + 3 := by rw [cns]; simp [hn]
  have hm : More [f.p] t t6 := more_of ⟨_, cns⟩ (fun p hp hpf i i0 i1 => by
    simp only [List.mem_singleton] at hpf
    rw [cat]
    have h1 := cell_ne hp f1 hpf i0 i1 (j := 0) (by omega) (by omega)
    rw [Int.add_zero] at h1
    rw [if_neg h1, if_neg]
    rcases br_in (t := t) f with e | e <;> rw [e]
    · exact cell_ne hp f1 hpf i0 i1 (by omega) (by omega)
    · exact cell_ne hp f1 hpf i0 i1 (by omega) (by omega))
  have hnd : ∀ p, p < n → t6.nd p = t.nd p := fun p hp => hm.nd p (by omega)
  have nlo : t6.nd n = lowN t l k v := by unfold Tr.nd; rw [cns, hn]; simp [List.getD_eq_getElem?_getD]
  have nhi : t6.nd (n + 1) = highN t l k v := by unfold Tr.nd; rw [cns, hn]; simp [List.getD_eq_getElem?_getD]
  have nnx : t6.nd (n + 2) = ⟨true, (highN t l k v).fin, (highN t l k v).key, 0, (n : Int)⟩ := by unfold Tr.nd; rw [cns, hn]; simp [List.getD_eq_getElem?_getD]
  have hli : (lowN t l k v).inner = false ∧ (highN t l k v).inner = false := by
    unfold lowN highN; by_cases h : (t.nd l).above k = true
    · rw [if_pos h, if_pos h]; exact ⟨rfl, hx.2⟩
    · rw [if_neg h, if_neg h]; exact ⟨hx.2, rfl⟩
  have hmod := hq.mod
  -- cells at and behind the old end are 0
  have hfc := f1.cell
  have hflt := f1.lt
  have hf2 := f1.two
  have hfm := f1.mod
  have hzero : ∀ x : Int, (n : Int) ≤ x → t6.ms.at x = 0 := fun x hxx => by
    rw [cat, if_neg (by rw [hfc]; omega), if_neg (by rcases br_in (t := t) f with e | e <;> rw [e, hfc] <;> omega)]
    exact at_has (by unfold MS.has; apply decide_eq_false; rw [hq.len]; omega)
  have hinx : InOk t6 (n + 2) := by
    refine ⟨by omega, by rw [nnx], by omega, by omega, by rw [nnx]; dsimp only; omega, ?_, ?_⟩
    · rw [nnx]; dsimp only; rw [hzero n (Int.le_refl _)]; rfl
    · rw [nnx]; dsimp only; rw [hzero n (Int.le_refl _)]; exact ⟨Int.le_refl _, by decide⟩
  have hatX : At t6 X' := by
    rw [hX']
    refine ⟨hinx, ?_, ?_, ⟨by omega, by rw [nlo]; exact hli.1⟩, ⟨by omega, by rw [nhi]; exact hli.2⟩⟩
    · unfold Tr.kid Tr.left
      rw [nnx]; dsimp only
      rw [hzero _ (by omega)]
      show ((((n + 2 : Nat) : Int) - 2 + 0) % 18446744073709551616).toNat = n
      omega
    · unfold Tr.kid Tr.right
      rw [nnx]; dsimp only
      rw [hzero _ (by omega)]
      show ((((n + 2 : Nat) : Int) - 1 + 0) % 18446744073709551616).toNat = n + 1
      omega
  have hnodup := hqc.nodup
  have hnd1 : (cxInners (f :: C)).Nodup := (List.nodup_append.1 hnodup).1
  have hfn : f.p ∉ f.sib.inners ++ cxInners C := by
    have : (f.p :: (f.sib.inners ++ cxInners C)).Nodup := hnd1
    exact (List.nodup_cons.1 this).1
  have hbr6 : t6.br f = t.br f ∧ t6.br' f = t.br' f := by
    unfold Tr.br Tr.br' Tr.left Tr.right; rw [hnd f.p (by omega)]; exact ⟨rfl, rfl⟩
  have hw6 : t6.ms.at (t6.nd f.p).cell = packW 0 ((t.ws.length + 1 : Nat) : Int) := by rw [hnd f.p (by omega), cat, if_pos rfl]
  have hcx : CxAt t6 (f :: C) X'.pl := by
    refine ⟨⟨⟨by omega, by rw [hnd f.p (by omega)]; exact f1.inner, hf2, hfm, by rw [hnd f.p (by omega)]; exact hfc, by rw [hw6, packW_mod]; rfl, by rw [hw6]; exact isU_packW _ _⟩, ?_, ?_, hm.at_ f4 (fun p hp hpf => ?_)⟩, hm.cx f5 (fun p hp hpf => ?_)⟩
    · rw [hbr6.1]
      have e1 : X'.pl = n + 2 := by rw [hX']; rfl
      rw [e1]
      refine kid_new (by omega) ?_
      rw [cat, if_neg (by rcases br_in (t := t) f with e | e <;> rw [e] <;> omega), if_pos rfl]
    · rw [hbr6.2]
      rw [← f3]
      unfold Tr.kid
      have hbo : (t.br' f).cell ≠ (t.nd f.p).cell ∧ (t.br' f).cell ≠ (t.br f).cell := by
        unfold Tr.br' Tr.br Tr.left Tr.right; cases f.lt <;> simp <;> omega
      rw [cat, if_neg hbo.1, if_neg hbo.2]
    · simp only [List.mem_singleton] at hpf; subst hpf; exact hfn (List.mem_append_left _ hp)
    · simp only [List.mem_singleton] at hpf; subst hpf; exact hfn (List.mem_append_right _ hp)
  obtain ⟨L', hL'⟩ := plug_top (f :: C) X' htop
  refine ⟨L', ⟨?_, ?_, clive, ?_, by rw [clen, hns3, hq.len, hn], by omega, ?_, ?_, ?_, cisu⟩, hL', hm⟩
  · rw [← hL', at_plug]; exact ⟨hcx, hatX⟩
  · rw [← hL']
    refine (plug_inners (f :: C) X').nodup_iff.2 ?_
    rw [hX']
    simp only [PT.inners, List.append_nil]
    refine List.nodup_append.2 ⟨hnd1, by simp, ?_⟩
    intro a ha b hb
    simp only [List.mem_singleton] at hb
    subst hb
    have h4 := at_inners hq.at_
    rw [← hp1] at h4
    have := (h4 a ((plug_inners (f :: C) (.leaf l)).mem_iff.2 (List.mem_append_left _ ha))).lt
    omega
  · intro o ho
    rw [cws] at ho
    rcases List.mem_append.1 ho with h1 | h1
    · obtain ⟨a1, a2, a3⟩ := hq.wks o h1
      exact ⟨by omega, by omega, fun p hp => by have := a3 p hp; omega⟩
    · simp only [List.mem_singleton] at h1
      subst h1
      exact ⟨by dsimp only; omega, by have := hx.1; dsimp only; omega, fun p hp => by simp at hp; omega⟩
  · have : 2 < n := by have := (at_inners hq.at_ 2 (by simp [PT.inners])).lt; omega
    rw [hnd 2 this]; exact hq.top
  · have : 1 < n := by have := (at_inners hq.at_ 2 (by simp [PT.inners])).lt; omega
    rw [hnd 1 this]; exact hq.one
  · rcases last_plug (f :: C) (.leaf l) X' L L' htop hp1 hL' with h1 | ⟨h1, h2⟩
    · rw [h1]
      have hlast := hq.last
      have : L.last < n := by
        have hatL := hq.at_.2.2.2.1
        have : ∀ T : PT, At t T → T.last < t.ns.length := by
          intro T
          induction T with
          | leaf p => intro h; exact h.1
          | node p a b iha ihb => intro h; exact ihb h.2.2.2.2
        rw [hn]; exact this L hatL
      rw [hnd _ this]; exact hlast
    · rw [h2, hX']
      show (t6.nd (n + 1)).fin = true
      rw [nhi]
      have hl1 : (t.nd l).fin = true := by have := hq.last; rw [h1] at this; exact this
      unfold highN
      rw [if_pos (by unfold Nd.above; rw [hl1]; rfl)]
      exact hl1
end Go.Proofs.Ytmhiolhgofackaa
