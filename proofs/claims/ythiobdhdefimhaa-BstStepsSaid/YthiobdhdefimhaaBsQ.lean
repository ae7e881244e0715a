/- PACKAGE bst, PLAINLY: a quiet tree: its shape, by contexts; its keys' order
PACKAGE bst, PLAINLY: a way down a quiet tree
PACKAGE bst, PLAINLY: the way as a context; cells that are turned -/
import Derived.Test.YthiobdhdefimhaaBsSim
import Derived.Test.YthiobdhdefimhaaBsRun
namespace Go.Proofs.Ythiobdhdefimhaa
open Go.RowKit
set_option linter.unusedVariables false
set_option linter.unusedSimpArgs false

/-- a shape: places of leaves and inner nodes -/
inductive PT
  | leaf (p : Nat)
  | node (p : Nat) (l r : PT)
def PT.pl : PT → Nat
  | .leaf p => p
  | .node p _ _ => p
def PT.inners : PT → List Nat
  | .leaf _ => []
  | .node p l r => p :: (l.inners ++ r.inners)
def PT.leaves : PT → List Nat
  | .leaf p => [p]
  | .node _ l r => l.leaves ++ r.leaves
def PT.last : PT → Nat
  | .leaf p => p
  | .node _ _ r => r.last
def PT.depth : PT → Nat
  | .leaf _ => 0
  | .node _ l r => max l.depth r.depth + 1
theorem PT.depth_le : ∀ T : PT, T.depth ≤ T.inners.length
  | .leaf _ => Nat.le_refl _
  | .node p l r => by
    have := PT.depth_le l
    have := PT.depth_le r
    simp only [PT.depth, PT.inners, List.length_cons, List.length_append]
    omega
/-- an inner node as it is kept: its cells, its word clean -/
structure InOk (t : Tr) (p : Nat) : Prop where
  lt : p < t.ns.length
  inner : (t.nd p).inner = true
  two : 2 ≤ p
  mod : p % 3 = 2
  cell : (t.nd p).cell = (p : Int) - 2
  clean : t.ms.at (t.nd p).cell % 4 = 0
  isu : IsU (t.ms.at (t.nd p).cell)
def LfOk (t : Tr) (p : Nat) : Prop := p < t.ns.length ∧ (t.nd p).inner = false
def At (t : Tr) : PT → Prop
  | .leaf p => LfOk t p
  | .node p l r => InOk t p ∧ t.kid (t.left p) = l.pl ∧ t.kid (t.right p) = r.pl ∧ At t l ∧ At t r
/-- one frame of a context: at an inner node, which side the hole is, what stands on the other side -/
structure Fm where
  p : Nat
  lt : Bool
  sib : PT
def Fm.fill (f : Fm) (T : PT) : PT := if f.lt then .node f.p T f.sib else .node f.p f.sib T
def plug : List Fm → PT → PT
  | [], T => T
  | f :: C, T => plug C (f.fill T)
def Tr.br (t : Tr) (f : Fm) : Br := if f.lt then t.left f.p else t.right f.p
def Tr.br' (t : Tr) (f : Fm) : Br := if f.lt then t.right f.p else t.left f.p
def FmOk (t : Tr) (f : Fm) (h : Nat) : Prop := InOk t f.p ∧ t.kid (t.br f) = h ∧ t.kid (t.br' f) = f.sib.pl ∧ At t f.sib
def CxAt (t : Tr) : List Fm → Nat → Prop
  | [], _ => True
  | f :: C, h => FmOk t f h ∧ CxAt t C f.p
theorem Fm.fill_pl (f : Fm) (T : PT) : (f.fill T).pl = f.p := by unfold Fm.fill; split <;> rfl
theorem at_fill {t : Tr} {f : Fm} {T : PT} : At t (f.fill T) ↔ FmOk t f T.pl ∧ At t T := by
  unfold Fm.fill FmOk Tr.br Tr.br'
  cases f.lt
  · simp only [Bool.false_eq_true, if_false]
    exact ⟨fun ⟨h1, h2, h3, h4, h5⟩ => ⟨⟨h1, h3, h2, h4⟩, h5⟩, fun ⟨⟨h1, h3, h2, h4⟩, h5⟩ => ⟨h1, h2, h3, h4, h5⟩⟩
  · simp only [if_true]
    exact ⟨fun ⟨h1, h2, h3, h4, h5⟩ => ⟨⟨h1, h2, h3, h5⟩, h4⟩, fun ⟨⟨h1, h2, h3, h5⟩, h4⟩ => ⟨h1, h2, h3, h4, h5⟩⟩
theorem at_plug {t : Tr} : ∀ {C : List Fm} {T : PT}, At t (plug C T) ↔ CxAt t C T.pl ∧ At t T
  | [], T => ⟨fun h => ⟨trivial, h⟩, fun h => h.2⟩
  | f :: C, T => by
    show At t (plug C (f.fill T)) ↔ _
    rw [at_plug, at_fill, Fm.fill_pl]
    exact ⟨fun ⟨h1, h2, h3⟩ => ⟨⟨h2, h1⟩, h3⟩, fun ⟨⟨h2, h1⟩, h3⟩ => ⟨h1, h2, h3⟩⟩
def cxInners : List Fm → List Nat
  | [] => []
  | f :: C => f.p :: (f.sib.inners ++ cxInners C)
theorem fill_inners (f : Fm) (T : PT) : (f.fill T).inners.Perm (f.p :: (f.sib.inners ++ T.inners)) := by
  unfold Fm.fill
  cases f.lt
  · simp [PT.inners]
  · simp only [if_true, PT.inners]
    exact List.Perm.cons _ List.perm_append_comm
theorem plug_inners : ∀ (C : List Fm) (T : PT), (plug C T).inners.Perm (cxInners C ++ T.inners)
  | [], T => List.Perm.refl _
  | f :: C, T => by
    refine (plug_inners C (f.fill T)).trans ?_
    refine (List.Perm.append_left _ (fill_inners f T)).trans ?_
    simp only [cxInners, List.cons_append]
    refine (List.perm_middle).trans (List.Perm.cons _ ?_)
    rw [← List.append_assoc]
    exact List.Perm.append_right _ List.perm_append_comm
/-! what a quiet tree is -/
structure Quiet (t : Tr) (L : PT) : Prop where
  at_ : At t (.node 2 L (.leaf 1))
  nodup : (PT.node 2 L (.leaf 1)).inners.Nodup
  live : ∀ i, t.live i = false
  wks : WksIn t
  len : t.ms.c.length = t.ns.length
  mod : t.ns.length % 3 = 0
  top : (t.nd 2).fin = true
  one : (t.nd 1).fin = true
  last : (t.nd L.last).fin = true
  isu : ∀ x ∈ t.ms.c, IsU x
/-- only the count of what was asked is another one -/
structure SameC (t t' : Tr) : Prop where
  ns : t'.ns = t.ns
  ws : t'.ws = t.ws
  live : t'.live = t.live
  c : t'.ms.c = t.ms.c
theorem SameC.refl (t : Tr) : SameC t t := ⟨rfl, rfl, rfl, rfl⟩
theorem SameC.trans {a b c : Tr} (h : SameC a b) (k : SameC b c) : SameC a c := ⟨k.ns.trans h.ns, k.ws.trans h.ws, k.live.trans h.live, k.c.trans h.c⟩
theorem SameC.ask (t : Tr) (c : Int) : SameC t (t.ask c) := ⟨rfl, rfl, rfl, by unfold Tr.ask MS.ask; dsimp only; split <;> rfl⟩
theorem SameC.nd {t t' : Tr} (h : SameC t t') (p : Nat) : t'.nd p = t.nd p := by unfold Tr.nd; rw [h.ns]
theorem SameC.atc {t t' : Tr} (h : SameC t t') (x : Int) : t'.ms.at x = t.ms.at x := by unfold MS.at MS.has; rw [h.c]
theorem SameC.kid {t t' : Tr} (h : SameC t t') (b : Br) : t'.kid b = t.kid b := by unfold Tr.kid; rw [h.atc]
theorem SameC.left {t t' : Tr} (h : SameC t t') (p : Nat) : t'.left p = t.left p := by unfold Tr.left; rw [h.nd]
theorem SameC.right {t t' : Tr} (h : SameC t t') (p : Nat) : t'.right p = t.right p := by unfold Tr.right; rw [h.nd]
theorem SameC.inOk {t t' : Tr} (h : SameC t t') {p : Nat} (k : InOk t p) : InOk t' p := by
  obtain ⟨k1, k2, k3, k4, k5, k6, k7⟩ := k
  exact ⟨by rw [h.ns]; exact k1, by rw [h.nd]; exact k2, k3, k4, by rw [h.nd]; exact k5, by rw [h.nd, h.atc]; exact k6, by rw [h.nd, h.atc]; exact k7⟩
theorem SameC.at_ {t t' : Tr} (h : SameC t t') : ∀ {T : PT}, At t T → At t' T
  | .leaf p, ⟨k1, k2⟩ => ⟨by rw [h.ns]; exact k1, by rw [h.nd]; exact k2⟩
  | .node p l r, ⟨k1, k2, k3, k4, k5⟩ => ⟨h.inOk k1, by rw [h.left, h.kid]; exact k2, by rw [h.right, h.kid]; exact k3, h.at_ k4, h.at_ k5⟩
theorem SameC.quiet {t t' : Tr} (h : SameC t t') {L : PT} (k : Quiet t L) : Quiet t' L := by
  obtain ⟨k1, k2, k3, k4, k5, k6, k7, k8, k9, k10⟩ := k
  exact ⟨h.at_ k1, k2, fun i => by rw [h.live]; exact k3 i, fun o ho => by rw [h.ws] at ho; rw [h.ns]; exact k4 o ho, by rw [h.c, h.ns]; exact k5, by rw [h.ns]; exact k6, by rw [h.nd]; exact k7, by rw [h.nd]; exact k8, by rw [h.nd]; exact k9, by rw [h.c]; exact k10⟩
/-- the same, but for some inner nodes' cells; more nodes -/
structure More (S : List Nat) (t t' : Tr) : Prop where
  ns : t.ns.length ≤ t'.ns.length
  nd : ∀ p, p < t.ns.length → t'.nd p = t.nd p
  c : ∀ p, InOk t p → p ∉ S → ∀ i : Int, 0 ≤ i → i < 3 → t'.ms.at ((t.nd p).cell + i) = t.ms.at ((t.nd p).cell + i)
theorem More.inOk {S : List Nat} {t t' : Tr} (h : More S t t') {p : Nat} (k : InOk t p) (hp : p ∉ S) : InOk t' p := by
  have hc := h.c p k hp 0 (by omega) (by omega)
  rw [Int.add_zero] at hc
  obtain ⟨k1, k2, k3, k4, k5, k6, k7⟩ := k
  exact ⟨Nat.lt_of_lt_of_le k1 h.ns, by rw [h.nd p k1]; exact k2, k3, k4, by rw [h.nd p k1]; exact k5, by rw [h.nd p k1, hc]; exact k6, by rw [h.nd p k1, hc]; exact k7⟩
theorem More.left {S : List Nat} {t t' : Tr} (h : More S t t') {p : Nat} (k : InOk t p) (hp : p ∉ S) : t'.left p = t.left p ∧ t'.kid (t.left p) = t.kid (t.left p) := by
  have hc := h.c p k hp 1 (by omega) (by omega)
  exact ⟨by unfold Tr.left; rw [h.nd p k.lt], by unfold Tr.kid Tr.left; dsimp only; rw [hc]⟩
theorem More.right {S : List Nat} {t t' : Tr} (h : More S t t') {p : Nat} (k : InOk t p) (hp : p ∉ S) : t'.right p = t.right p ∧ t'.kid (t.right p) = t.kid (t.right p) := by
  have hc := h.c p k hp 2 (by omega) (by omega)
  exact ⟨by unfold Tr.right; rw [h.nd p k.lt], by unfold Tr.kid Tr.right; dsimp only; rw [hc]⟩
theorem More.at_ {S : List Nat} {t t' : Tr} (h : More S t t') : ∀ {T : PT}, At t T → (∀ p ∈ T.inners, p ∉ S) → At t' T
  | .leaf p, ⟨k1, k2⟩, _ => ⟨Nat.lt_of_lt_of_le k1 h.ns, by rw [h.nd p k1]; exact k2⟩
  | .node p l r, ⟨k1, k2, k3, k4, k5⟩, hn => by
    have hp := hn p (by simp [PT.inners])
    obtain ⟨l1, l2⟩ := h.left k1 hp
    obtain ⟨r1, r2⟩ := h.right k1 hp
    exact ⟨h.inOk k1 hp, by rw [l1, l2]; exact k2, by rw [r1, r2]; exact k3, h.at_ k4 (fun q hq => hn q (by simp [PT.inners, hq])), h.at_ k5 (fun q hq => hn q (by simp [PT.inners, hq]))⟩
theorem More.cx {S : List Nat} {t t' : Tr} (h : More S t t') : ∀ {C : List Fm} {p : Nat}, CxAt t C p → (∀ q ∈ cxInners C, q ∉ S) → CxAt t' C p
  | [], _, _, _ => trivial
  | f :: C, p, ⟨⟨k1, k2, k3, k4⟩, k5⟩, hn => by
    have hp := hn f.p (by simp [cxInners])
    obtain ⟨l1, l2⟩ := h.left k1 hp
    obtain ⟨r1, r2⟩ := h.right k1 hp
    refine ⟨⟨h.inOk k1 hp, ?_, ?_, h.at_ k4 (fun q hq => hn q (by simp [cxInners, hq]))⟩, h.cx k5 (fun q hq => hn q (by simp [cxInners, hq]))⟩
    · unfold Tr.br at k2 ⊢
      cases hlt : f.lt <;> rw [hlt] at k2 <;> simp only [Bool.false_eq_true, if_false, if_true] at k2 ⊢
      · rw [r1, r2]; exact k2
      · rw [l1, l2]; exact k2
    · unfold Tr.br' at k3 ⊢
      cases hlt : f.lt <;> rw [hlt] at k3 <;> simp only [Bool.false_eq_true, if_false, if_true] at k3 ⊢
      · rw [l1, l2]; exact k3
      · rw [r1, r2]; exact k3
theorem InOk.nd {t : Tr} {p : Nat} (h : InOk t p) (hl : t.ns.length ≤ 65536) : NdOk t p := ⟨h.lt, h.two, by have := h.lt; omega, by rw [h.cell]; have := h.two; omega, by rw [h.cell]; have := h.lt; omega⟩
theorem InOk.hlp {t : Tr} {x : Int} (h : ∀ i, t.live i = false) : HlpOk t x := fun e => by rw [h] at e; cases e
end Go.Proofs.Ythiobdhdefimhaa
namespace Go.Proofs.Ythiobdhdefimhaa
open Go.RowKit
set_option linter.unusedVariables false
set_option linter.unusedSimpArgs false

theorem OkRun.mono : ∀ {n m : Nat} {t : Tr} {c : Cl} {s : Stp} {t' : Tr} {c' : Cl}, OkRun n t c s t' c' → n ≤ m → OkRun m t c s t' c'
  | 0, _, _, _, _, _, _, h, _ => h.elim
  | n + 1, 0, _, _, _, _, _, _, hm => by omega
  | n + 1, m + 1, t, c, s, t', c', ⟨h1, h2, h3⟩, hm => by
    refine ⟨h1, h2, ?_⟩
    cases ho : (stepP t c s).2.2 with
    | none => rw [ho] at h3; exact h3
    | some s' => rw [ho] at h3; exact OkRun.mono h3 (by omega)
/-- what comes behind an outcome -/
def OkOut (n : Nat) (t : Tr) (o : Out) (t' : Tr) (c' : Cl) : Prop := match o.2 with
  | none => t = t' ∧ o.1 = c'
  | some s => OkRun n t o.1 s t' c'
theorem okRun_step {n : Nat} {t : Tr} {c : Cl} {s : Stp} {t' : Tr} {c' : Cl} (h1 : StepOk t c s) (h2 : Small t c) (h3 : OkOut n (stepP t c s).1 (stepP t c s).2 t' c') : OkRun (n + 1) t c s t' c' := ⟨h1, h2, h3⟩
/-- where a way ends, and what the call is then -/
def goesL (t : Tr) (m : Md) (p : Nat) (k : ByteArray) : Bool := match m with
  | .left => true
  | _ => (t.nd p).above k
def goC (t : Tr) (m : Md) : Cl → PT → Cl × Nat
  | c, .leaf p => (c, p)
  | c, .node p l r => if goesL t m p c.key then goC t m (c.toward t p m).1 l else goC t m (c.toward t p m).1 r
theorem Cl.toward_same {t t' : Tr} (h : SameC t t') (c : Cl) (n : Nat) (m : Md) : (c.toward t' n m).1 = (c.toward t n m).1 := by cases m <;> simp only [Cl.toward, h.nd]
theorem goesL_same {t t' : Tr} (h : SameC t t') (m : Md) (p : Nat) (k : ByteArray) : goesL t' m p k = goesL t m p k := by cases m <;> simp only [goesL, h.nd]
theorem goC_same {t t' : Tr} (h : SameC t t') (m : Md) : ∀ (T : PT) (c : Cl), goC t' m c T = goC t m c T := by
  intro T
  induction T with
  | leaf p => intro c; rfl
  | node p l r ihl ihr =>
    intro c
    show (if goesL t' m p c.key then goC t' m (c.toward t' p m).1 l else goC t' m (c.toward t' p m).1 r) = (if goesL t m p c.key then goC t m (c.toward t p m).1 l else goC t m (c.toward t p m).1 r)
    rw [Cl.toward_same h, goesL_same h, ihl, ihr]
theorem Cl.toward_key (t : Tr) (c : Cl) (n : Nat) (m : Md) : (c.toward t n m).1.key = c.key ∧ (c.toward t n m).1.kd = c.kd ∧ (c.toward t n m).1.val = c.val ∧ (c.toward t n m).1.full = c.full ∧ (c.toward t n m).1.ans = c.ans ∧ (c.toward t n m).1.path.length ≤ c.path.length + 1 := by
  cases m
  · exact ⟨rfl, rfl, rfl, rfl, rfl, Nat.le_succ _⟩
  · unfold Cl.toward; dsimp only; split <;> exact ⟨rfl, rfl, rfl, rfl, rfl, Nat.le_succ _⟩
  · exact ⟨rfl, rfl, rfl, rfl, rfl, Nat.le_succ _⟩
  · exact ⟨rfl, rfl, rfl, rfl, rfl, by simp [Cl.toward, Cl.pass]⟩
structure Room (t : Tr) (k : Nat) : Prop where
  cells : t.ms.c.length ≤ 65536
  ns : t.ns.length ≤ 65536
  asked : t.ms.n + k ≤ 1000000000
  ws : t.ws.length ≤ 800000000
theorem ask_n (t : Tr) (c : Int) : t.ms.n ≤ (t.ask c).ms.n ∧ (t.ask c).ms.n ≤ t.ms.n + 1 := by
  unfold Tr.ask MS.ask; dsimp only; split
  · exact ⟨Nat.le_succ _, Nat.le_refl _⟩
  · exact ⟨Nat.le_refl _, Nat.le_succ _⟩
theorem Room.same {t t' : Tr} {k j : Nat} (h : Room t (k + j)) (hs : SameC t t') (hn : t'.ms.n ≤ t.ms.n + j) : Room t' k := ⟨by rw [hs.c]; exact h.cells, by rw [hs.ns]; exact h.ns, by have := h.asked; omega, by rw [hs.ws]; exact h.ws⟩
theorem Room.small {t : Tr} {k : Nat} {c : Cl} (h : Room t k) (hp : c.path.length ≤ 1000000000) : Small t c := ⟨h.cells, by have := h.asked; omega, by have := h.ws; omega, hp⟩
theorem kid_lt {t : Tr} {T : PT} (h : At t T) : T.pl < t.ns.length := by
  cases T with
  | leaf p => exact h.1
  | node p l r => exact h.1.lt
theorem leaf_same {t t' : Tr} (h : SameC t t') (c : Cl) (l : Nat) (m : Md) : c.leaf t' l m = c.leaf t l m := by
  unfold Cl.leaf Cl.found
  simp only [h.nd, h.right]
theorem LeafOk.same {t t' : Tr} (h : SameC t t') {c : Cl} {l : Nat} {m : Md} (k : LeafOk t c l m) : LeafOk t' c l m := by
  obtain ⟨k1, k2, k3, k4, k5⟩ := k
  refine ⟨by rw [h.ns]; exact k1, k2, k3, fun a b => k4 a (by rw [← h.nd]; exact b), fun a b d => ?_⟩
  rw [h.nd] at d
  obtain ⟨p, hp, h1, h2, h3, h4, h5⟩ := k5 a b d
  exact ⟨p, hp, by rw [h.ns]; exact h1, h2, h3, by rw [h.nd]; exact h4, by rw [h.nd]; exact h5⟩
theorem desc_run (m : Md) : ∀ (F : PT) (t : Tr) (c : Cl) (b : Br) (k : Nat), At t F → t.kid b = F.pl → Room t (k + (F.depth + 1)) → c.path.length + F.depth ≤ 900000000 → MdOk c.kd m → LeafOk t (goC t m c F).1 (goC t m c F).2 m →
    ∃ t', SameC t t' ∧ t'.ms.n ≤ t.ms.n + (F.depth + 1) ∧ ∀ n T' C', OkOut n t' ((goC t m c F).1.leaf t (goC t m c F).2 m) T' C' → OkRun (F.depth + 1 + n) t c (.desc b m) T' C' := by
  intro F
  induction F with
  | leaf p =>
    intro t c b k hat hk hr hp hm hl
    refine ⟨t.ask b.cell, SameC.ask t _, ?_, fun n T' C' ho => ?_⟩
    · have := (ask_n t b.cell).2; simp [PT.depth]; omega
    · have hki : t.kid b = p := hk
      rw [show PT.depth (.leaf p) + 1 + n = n + 1 by simp [PT.depth]; omega]
      refine okRun_step ⟨hm, by rw [hki]; exact hat.1, by omega, (fun e => by rw [hki, hat.2] at e; cases e), fun _ => by rw [hki]; exact hl⟩ (hr.small (by omega)) ?_
      have e : (stepP t c (.desc b m)) = (t.ask b.cell, c.leaf t p m) := by
        show (t.ask b.cell, c.desc (t.ask b.cell) (t.kid b) m) = _
        unfold Cl.desc
        rw [hki, (SameC.ask t b.cell).nd, hat.2, if_neg (by simp), leaf_same (SameC.ask t b.cell)]
      rw [e]
      exact ho
  | node p l r ihl ihr =>
    intro t c b k hat hk hr hp hm hl
    have hki : t.kid b = p := hk
    obtain ⟨a1, a2, a3, a4, a5⟩ := hat
    have hs := SameC.ask t b.cell
    have hdep : PT.depth (.node p l r) = max l.depth r.depth + 1 := rfl
    have main : ∀ F', (∀ (t : Tr) (c : Cl) (b : Br) (k : Nat), At t F' → t.kid b = F'.pl → Room t (k + (F'.depth + 1)) → c.path.length + F'.depth ≤ 900000000 → MdOk c.kd m → LeafOk t (goC t m c F').1 (goC t m c F').2 m →
        ∃ t', SameC t t' ∧ t'.ms.n ≤ t.ms.n + (F'.depth + 1) ∧ ∀ n T' C', OkOut n t' ((goC t m c F').1.leaf t (goC t m c F').2 m) T' C' → OkRun (F'.depth + 1 + n) t c (.desc b m) T' C') →
        goC t m c (.node p l r) = goC t m (c.toward t p m).1 F' → F'.depth ≤ max l.depth r.depth → At t F' → t.kid (c.toward t p m).2 = F'.pl →
        ∃ t', SameC t t' ∧ t'.ms.n ≤ t.ms.n + (PT.depth (.node p l r) + 1) ∧ ∀ n T' C', OkOut n t' ((goC t m c (.node p l r)).1.leaf t (goC t m c (.node p l r)).2 m) T' C' → OkRun (PT.depth (.node p l r) + 1 + n) t c (.desc b m) T' C' := by
      intro F' ih hgo hd hat' hbr
      have hbs : (c.toward (t.ask b.cell) p m).2 = (c.toward t p m).2 := by
        cases m <;> simp only [Cl.toward, Tr.toward, hs.nd, hs.left, hs.right]
      obtain ⟨q1, q2, q3, q4, q5, q6⟩ := Cl.toward_key t c p m
      have hn1 := (ask_n t b.cell).2
      rw [hgo] at hl ⊢
      have hrm : Room (t.ask b.cell) (k + (F'.depth + 1)) := Room.same (j := 1) ⟨hr.cells, hr.ns, by have := hr.asked; omega, hr.ws⟩ hs (by omega)
      obtain ⟨t', h1, h2, h3⟩ := ih (t.ask b.cell) (c.toward t p m).1 (c.toward t p m).2 k (hs.at_ hat') (by rw [hs.kid]; exact hbr) hrm (by omega) (by rw [q2]; exact hm) (by rw [goC_same hs]; exact hl.same hs)
      refine ⟨t', hs.trans h1, by omega, fun n T' C' ho => ?_⟩
      have hrun := h3 n T' C' (by rw [goC_same hs, leaf_same hs]; exact ho)
      refine OkRun.mono (n := F'.depth + 1 + n + 1) ?_ (by omega)
      refine okRun_step ⟨hm, by rw [hki]; exact a1.lt, by omega, fun _ => by rw [hki]; exact a1.nd hr.ns, (fun e => by rw [hki, a1.inner] at e; cases e)⟩ (hr.small (by omega)) ?_
      have e : (stepP t c (.desc b m)) = (t.ask b.cell, (c.toward t p m).1, some (.desc (c.toward t p m).2 m)) := by
        show (t.ask b.cell, c.desc (t.ask b.cell) (t.kid b) m) = _
        unfold Cl.desc
        rw [hki, hs.nd, a1.inner, if_pos rfl, hbs, Cl.toward_same hs]
      rw [e]
      exact hrun
    have hgo : goC t m c (.node p l r) = if goesL t m p c.key then goC t m (c.toward t p m).1 l else goC t m (c.toward t p m).1 r := rfl
    cases hg : goesL t m p c.key
    · rw [hg, if_neg Bool.false_ne_true] at hgo
      refine main r ihr hgo (Nat.le_max_right _ _) a5 ?_
      cases m <;> simp only [goesL] at hg <;> simp only [Cl.toward, Tr.toward, hg, Bool.false_eq_true, if_false] <;> first | exact a3 | cases hg
    · rw [hg, if_pos rfl] at hgo
      refine main l ihl hgo (Nat.le_max_left _ _) a4 ?_
      cases m <;> simp only [goesL] at hg <;> simp only [Cl.toward, Tr.toward, hg, if_true] <;> exact a2
end Go.Proofs.Ythiobdhdefimhaa
namespace Go.Proofs.Ythiobdhdefimhaa
open Go.RowKit
set_option linter.unusedVariables false
set_option linter.unusedSimpArgs false

def pathOf (C : List Fm) : List Ps := (C.map fun f => (⟨f.p, false, 0⟩ : Ps)).reverse
/-- each frame's hole is where the key leads -/
def Sides (t : Tr) (k : ByteArray) (C : List Fm) : Prop := ∀ f ∈ C, f.lt = (t.nd f.p).above k
theorem goC_way (t : Tr) : ∀ (F : PT) (f : Fm) (C : List Fm) (c : Cl), c.path = pathOf (f :: C) → Sides t c.key (f :: C) →
    ∃ f1 C1 l, goC t .way c F = ({ c with path := pathOf (f1 :: C1) }, l) ∧ plug (f1 :: C1) (.leaf l) = plug (f :: C) F ∧ Sides t c.key (f1 :: C1) ∧ (f1 :: C1).getLast? = (f :: C).getLast? ∧ f1.sib.depth ≤ max f.sib.depth F.depth := by
  intro F
  induction F with
  | leaf p => intro f C c hp hs; exact ⟨f, C, p, by rw [← hp]; rfl, rfl, hs, rfl, Nat.le_max_left _ _⟩
  | node p l r ihl ihr =>
    intro f C c hp hs
    have hgo : goC t .way c (.node p l r) = if (t.nd p).above c.key then goC t .way (c.pass p) l else goC t .way (c.pass p) r := rfl
    have main : ∀ (F' : PT) (g : Fm), g.p = p → g.lt = (t.nd p).above c.key → g.fill F' = .node p l r → F'.depth ≤ max l.depth r.depth → g.sib.depth ≤ max l.depth r.depth →
        (∀ (f : Fm) (C : List Fm) (c : Cl), c.path = pathOf (f :: C) → Sides t c.key (f :: C) → ∃ f1 C1 l, goC t .way c F' = ({ c with path := pathOf (f1 :: C1) }, l) ∧ plug (f1 :: C1) (.leaf l) = plug (f :: C) F' ∧ Sides t c.key (f1 :: C1) ∧ (f1 :: C1).getLast? = (f :: C).getLast? ∧ f1.sib.depth ≤ max f.sib.depth F'.depth) →
        goC t .way c (.node p l r) = goC t .way (c.pass p) F' → ∃ f1 C1 l', goC t .way c (.node p l r) = ({ c with path := pathOf (f1 :: C1) }, l') ∧ plug (f1 :: C1) (.leaf l') = plug (f :: C) (.node p l r) ∧ Sides t c.key (f1 :: C1) ∧ (f1 :: C1).getLast? = (f :: C).getLast? ∧ f1.sib.depth ≤ max f.sib.depth (PT.depth (.node p l r)) := by
      intro F' g hgp hgl hgf hd hgs ih hg
      obtain ⟨f1, C1, l', h1, h2, h3, h4, h5⟩ := ih g (f :: C) (c.pass p) (by simp [Cl.pass, hp, pathOf, hgp]) (by
        intro x hx
        rcases List.mem_cons.1 hx with rfl | hx
        · rw [hgp]; exact hgl
        · exact hs x hx)
      have hdep : PT.depth (.node p l r) = max l.depth r.depth + 1 := rfl
      refine ⟨f1, C1, l', by rw [hg, h1]; rfl, ?_, h3, by rw [h4]; simp, by omega⟩
      rw [h2]
      show plug (f :: C) (g.fill F') = _
      rw [hgf]
    cases hab : (t.nd p).above c.key
    · rw [hab, if_neg Bool.false_ne_true] at hgo
      exact main r ⟨p, false, l⟩ rfl hab.symm rfl (Nat.le_max_right _ _) (Nat.le_max_left _ _) ihr hgo
    · rw [hab, if_pos rfl] at hgo
      exact main l ⟨p, true, r⟩ rfl hab.symm rfl (Nat.le_max_left _ _) (Nat.le_max_right _ _) ihl hgo
def topF : Fm := ⟨2, true, .leaf 1⟩
/-- under the top -/
theorem plug_top : ∀ (C : List Fm) (X : PT), C.getLast? = some topF → ∃ L, plug C X = .node 2 L (.leaf 1)
  | [], X, h => by cases h
  | [f], X, h => by simp at h; subst h; exact ⟨X, rfl⟩
  | f :: g :: C, X, h => plug_top (g :: C) (f.fill X) (by simpa using h)
/-! cells -/
theorem MS.at_put (m : MS) (a v x : Int) : (m.put a v).at x = if x = a ∧ m.has a = true then v else m.at x := by
  unfold MS.put
  by_cases h : m.has a = true
  · rw [if_pos h]
    obtain ⟨k, rfl, hk⟩ := MS.has_true h
    by_cases he : x = (k : Int)
    · subst he
      rw [if_pos ⟨rfl, h⟩]
      unfold MS.at MS.has
      simp [List.getD_eq_getElem?_getD, hk]
    · rw [if_neg (fun e => he e.1)]
      have hh : (⟨m.c.set (k : Int).toNat v, m.n + 1⟩ : MS).has x = m.has x := by unfold MS.has; simp
      unfold MS.at
      rw [hh]
      cases hx : m.has x
      · rfl
      · obtain ⟨q, rfl, hq⟩ := MS.has_true hx
        have : k ≠ q := by omega
        simp [List.getD_eq_getElem?_getD, List.getElem?_set, this]
  · rw [if_neg h, if_neg (fun e => h e.2)]
theorem MS.at_ask (m : MS) (a x : Int) : (m.ask a).at x = m.at x := by unfold MS.ask; split <;> rfl
theorem MS.at_cas (m : MS) (a o v x : Int) : (m.cas a o v).at x = if x = a ∧ m.casB a o = true then v else m.at x := by
  unfold MS.cas MS.casB
  by_cases h : m.at a = o
  · rw [if_pos h, MS.at_put]
    simp [h]
  · rw [if_neg h, MS.at_ask, if_neg (by simp [h])]
theorem MS.cas_n (m : MS) (a o v : Int) : m.n ≤ (m.cas a o v).n ∧ (m.cas a o v).n ≤ m.n + 1 := by
  unfold MS.cas MS.put MS.ask
  split <;> split <;> simp
theorem MS.cas_mem {m : MS} {a o v : Int} (hv : IsU v) (h : ∀ x ∈ m.c, IsU x) : ∀ x ∈ (m.cas a o v).c, IsU x := by
  unfold MS.cas MS.put MS.ask
  intro x hx
  split at hx <;> split at hx
  · rcases List.mem_or_eq_of_mem_set hx with h1 | rfl
    · exact h x h1
    · exact hv
  · exact h x hx
  · exact h x hx
  · exact h x hx
theorem isU_packW (s i : Int) : IsU (packW s i) := by unfold IsU packW; omega
theorem isU_u64 (x : Int) : IsU (u64 x) := by unfold IsU u64; omega
/-- a child as it stands -/
theorem kid_cas {t : Tr} {b : Br} {p : Nat} (hk : t.kid b = p) (hu : IsU (t.ms.at b.cell)) (h : t.ms.has b.cell = true) : t.ms.casB b.cell (u64 (p - b.first)) = true := by
  unfold MS.casB
  rw [h, Bool.true_and]
  apply decide_eq_true
  unfold Tr.kid at hk
  have : (((b.first + t.ms.at b.cell) % 18446744073709551616).toNat : Int) = (b.first + t.ms.at b.cell) % 18446744073709551616 := Int.toNat_of_nonneg (by omega)
  rw [hk] at this
  obtain ⟨u0, u1⟩ := hu
  unfold u64
  omega
theorem kid_new {t : Tr} {b : Br} {q : Nat} (hq : q < 18446744073709551616) (h : t.ms.at b.cell = u64 (q - b.first)) : t.kid b = q := by
  unfold Tr.kid
  rw [h]
  unfold u64
  have : (b.first + ((q : Int) - b.first) % 18446744073709551616) % 18446744073709551616 = q := by omega
  rw [this]
  exact Int.toNat_natCast q
end Go.Proofs.Ythiobdhdefimhaa
