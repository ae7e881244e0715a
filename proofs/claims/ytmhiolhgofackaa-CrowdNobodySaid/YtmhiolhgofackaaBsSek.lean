/- PACKAGE bst, PLAINLY: Seek, while the tree grows -/
import Derived.Test.YtmhiolhgofackaaBsOp
namespace Go.Proofs.Ytmhiolhgofackaa
open Go.RowKit
set_option linter.unusedVariables false
set_option linter.unusedSimpArgs false

/-- leaves that became trees -/
inductive Ref : PT → PT → Prop
  | leaf (p : Nat) (X : PT) : Ref (.leaf p) X
  | node (p : Nat) {l r l' r' : PT} : Ref l l' → Ref r r' → Ref (.node p l r) (.node p l' r')
theorem Ref.refl : ∀ T, Ref T T
  | .leaf p => .leaf p _
  | .node p l r => .node p (Ref.refl l) (Ref.refl r)
structure SameF (f f' : Fm) : Prop where
  p : f'.p = f.p
  lt : f'.lt = f.lt
  sib : Ref f.sib f'.sib
inductive CRef : List Fm → List Fm → Prop
  | nil : CRef [] []
  | cons {f f' : Fm} {C C' : List Fm} : SameF f f' → CRef C C' → CRef (f :: C) (f' :: C')
theorem ref_fill {f : Fm} {X Y : PT} (h : Ref (f.fill X) Y) : ∃ f' X', Y = f'.fill X' ∧ SameF f f' ∧ Ref X X' := by
  unfold Fm.fill at h
  cases hl : f.lt
  · rw [hl, if_neg Bool.false_ne_true] at h
    cases h with
    | node _ h1 h2 => exact ⟨⟨f.p, false, _⟩, _, rfl, ⟨rfl, hl.symm, h1⟩, h2⟩
  · rw [hl, if_pos rfl] at h
    cases h with
    | node _ h1 h2 => exact ⟨⟨f.p, true, _⟩, _, rfl, ⟨rfl, hl.symm, h2⟩, h1⟩
theorem ref_plug : ∀ {C : List Fm} {X T' : PT}, Ref (plug C X) T' → ∃ C' X', T' = plug C' X' ∧ CRef C C' ∧ Ref X X'
  | [], X, T', h => ⟨[], T', rfl, .nil, h⟩
  | f :: C, X, T', h => by
    obtain ⟨C', Y, rfl, h1, h2⟩ := ref_plug (C := C) (X := f.fill X) h
    obtain ⟨f', X', rfl, h3, h4⟩ := ref_fill h2
    exact ⟨f' :: C', X', rfl, .cons h3 h1, h4⟩
theorem ref_in : ∀ (C : List Fm) {X X' : PT}, Ref X X' → Ref (plug C X) (plug C X')
  | [], _, _, h => h
  | f :: C, X, X', h => ref_in C (by
    unfold Fm.fill
    cases f.lt
    · exact .node _ (Ref.refl _) h
    · exact .node _ h (Ref.refl _))
theorem CRef.split : ∀ {A B C' : List Fm}, CRef (A ++ B) C' → ∃ A' B', C' = A' ++ B' ∧ CRef A A' ∧ CRef B B'
  | [], B, C', h => ⟨[], C', rfl, .nil, h⟩
  | a :: A, B, C', h => by
    cases h with
    | cons h1 h2 =>
      obtain ⟨A', B', rfl, h3, h4⟩ := CRef.split h2
      exact ⟨_ :: A', B', rfl, .cons h1 h3, h4⟩
theorem CRef.all {P : Fm → Prop} : ∀ {C C' : List Fm}, CRef C C' → (∀ f f', SameF f f' → P f → P f') → (∀ f ∈ C, P f) → ∀ f ∈ C', P f
  | _, _, .nil, _, _, f, hf => by cases hf
  | _, _, .cons h1 h2, hP, h, f, hf => by
    rcases List.mem_cons.1 hf with rfl | hf
    · exact hP _ _ h1 (h _ (by simp))
    · exact CRef.all h2 hP (fun g hg => h g (List.mem_cons_of_mem _ hg)) f hf
theorem CRef.back {P : Fm → Prop} : ∀ {C C' : List Fm}, CRef C C' → (∀ f f', SameF f f' → P f' → P f) → (∀ f ∈ C', P f) → ∀ f ∈ C, P f
  | _, _, .nil, _, _, f, hf => by cases hf
  | _, _, .cons h1 h2, hP, h, f, hf => by
    rcases List.mem_cons.1 hf with rfl | hf
    · exact hP _ _ h1 (h _ (by simp))
    · exact CRef.back h2 hP (fun g hg => h g (List.mem_cons_of_mem _ hg)) f hf
/-! the order -/
def ge (x k : ByteArray) : Prop := ls x.toList k.toList = false
theorem not_above {n : Nd} {k : ByteArray} (h : n.above k = false) : n.fin = false ∧ ls k.toList n.key.toList = false := by
  unfold Nd.above at h; rw [Bool.or_eq_false_iff] at h; exact h
/-- left of a node, what isn't below it being right of it -/
theorem left_of {t : Tr} {p q : Nat} {x : ByteArray} (h : SideOk t p true q) (hx : (t.nd p).above x = false) : (t.nd q).fin = false ∧ ls (t.nd q).key.toList x.toList = true := by
  obtain ⟨h1, h2⟩ := not_above hx
  cases hf : (t.nd q).fin
  · have h3 := h.1 hf
    rcases above_iff.1 h3 with h4 | h4
    · rw [h1] at h4; cases h4
    · exact ⟨rfl, ls_trans_le h4 h2⟩
  · have := h.2 hf rfl
    rw [h1] at this; cases this
theorem diverge {t : Tr} {k x : ByteArray} (hx : ge x k) : ∀ (C : List Fm) (X : PT), Sides t k C → ¬ Sides t x C → ∃ C3 g C4, C = C3 ++ g :: C4 ∧ g.lt = true ∧ (t.nd g.p).above x = false ∧ look t x (plug C X) = look t x g.sib
  | [], X, _, h => absurd (fun f hf => by cases hf) h
  | f :: C, X, hs, h => by
    by_cases hC : Sides t x C
    · have hfx : ¬ f.lt = (t.nd f.p).above x := fun e => h (fun g hg => by
        rcases List.mem_cons.1 hg with rfl | hg
        · exact e
        · exact hC g hg)
      have hfk := hs f (by simp)
      have hl : f.lt = true := by
        cases hf : f.lt
        · rw [hf] at hfk hfx
          obtain ⟨h1, h2⟩ := not_above hfk.symm
          exfalso
          apply hfx
          symm
          unfold Nd.above
          rw [h1, Bool.false_or]
          exact le_trans' h2 hx
        · rfl
      have hab : (t.nd f.p).above x = false := by
        cases ha : (t.nd f.p).above x
        · rfl
        · rw [hl, ha] at hfx; exact absurd rfl hfx
      refine ⟨[], f, C, rfl, hl, hab, ?_⟩
      show look t x (plug C (f.fill X)) = _
      rw [(look_plug t x C _).1 hC, look_fill, hab, hl, if_neg (by simp)]
    · obtain ⟨C3, g, C4, e, h1, h2, h3⟩ := diverge hx C (f.fill X) (fun g hg => hs g (List.mem_cons_of_mem _ hg)) hC
      exact ⟨f :: C3, g, C4, by rw [e]; rfl, h1, h2, h3⟩
def PT.first : PT → Nat
  | .leaf p => p
  | .node _ l _ => l.first
theorem first_in : ∀ T : PT, T.first ∈ T.leaves
  | .leaf p => by simp [PT.first, PT.leaves]
  | .node p l r => List.mem_append_left _ (first_in l)
theorem first_least {t : Tr} : ∀ {T : PT}, Ord t T → ∀ r ∈ T.leaves, (t.nd r).fin = false → (t.nd T.first).fin = false ∧ ge (t.nd r).key (t.nd T.first).key
  | .leaf p, _, r, hr, hf => by
    simp [PT.leaves] at hr; subst hr
    exact ⟨hf, ls_irrefl _⟩
  | .node p l r', ⟨h1, h2, h3, h4⟩, r, hr, hf => by
    rcases List.mem_append.1 hr with hr | hr
    · exact first_least h3 r hr hf
    · have hab := (h2 r hr).1 hf
      obtain ⟨a, b⟩ := left_of (h1 _ (first_in l)) hab
      exact ⟨a, ls_asymm b⟩
theorem first_plug : ∀ (D : List Fm) (X : PT), (∀ g ∈ D, g.lt = true) → (plug D X).first = X.first
  | [], X, _ => rfl
  | f :: D, X, h => by
    show (plug D (f.fill X)).first = _
    rw [first_plug D _ (fun g hg => h g (List.mem_cons_of_mem _ hg))]
    unfold Fm.fill; rw [h f (by simp)]; rfl
theorem look_own {t : Tr} : ∀ {T : PT}, Ord t T → ∀ q ∈ T.leaves, (t.nd q).fin = false → look t (t.nd q).key T = q
  | .leaf p, _, q, hq, _ => by simp [PT.leaves] at hq; subst hq; rfl
  | .node p l r, ⟨h1, h2, h3, h4⟩, q, hq, hf => by
    show (if (t.nd p).above (t.nd q).key then _ else _) = q
    rcases List.mem_append.1 hq with hq | hq
    · rw [(h1 q hq).1 hf, if_pos rfl]; exact look_own h3 q hq hf
    · rw [(h2 q hq).1 hf, if_neg Bool.false_ne_true]; exact look_own h4 q hq hf
theorem plug_leaves : ∀ (C : List Fm) (X : PT) (q : Nat), q ∈ X.leaves → q ∈ (plug C X).leaves
  | [], _, _, h => h
  | f :: C, X, q, h => plug_leaves C (f.fill X) q ((fill_leaves f X q).2 (Or.inl h))
theorem look_top {t : Tr} {L : PT} (hq : Quiet t L) (k : ByteArray) : look t k (.node 2 L (.leaf 1)) = look t k L := by
  show (if (t.nd 2).above k then _ else _) = _
  rw [if_pos (hq.top2 k).1]
theorem cont_of {t : Tr} {L : PT} {k : ByteArray} (h : cont t L k ≠ none) : (t.nd (look t k L)).has k = true := by
  unfold cont at h
  split at h
  · assumption
  · exact absurd rfl h
theorem cont_own {t : Tr} {L : PT} (hq : Quiet t L) (ho : Ord t (.node 2 L (.leaf 1))) {q : Nat} (hl : q ∈ (PT.node 2 L (.leaf 1)).leaves) (hf : (t.nd q).fin = false) : cont t L (t.nd q).key = some (t.nd q).val := by
  have := look_own ho q hl hf
  rw [look_top hq] at this
  unfold cont
  rw [this, if_pos (has_iff.2 ⟨hf, rfl⟩)]
/-! where a Seek is -/
def leftBr (t : Tr) (m : Fm) : List Fm → Br
  | [] => t.right m.p
  | g :: _ => t.left g.p
structure SekA (t : Tr) (L : PT) (c : Cl) (b : Br) (X : PT) (C1 : List Fm) (m : Fm) (C2 : List Fm) (f : Fm) (C : List Fm) : Prop where
  eq : C1 ++ m :: C2 = f :: C
  pl : plug (f :: C) X = .node 2 L (.leaf 1)
  sides : Sides t c.key (f :: C)
  right : ∀ g ∈ C1, g.lt = false
  left : m.lt = true
  over : c.over = some m.p
  br : b = t.br f
structure SekB (t : Tr) (L : PT) (c : Cl) (b : Br) (Y : PT) (x0 : ByteArray → Prop) (m : Fm) (C2 D : List Fm) (Z : PT) : Prop where
  pl : plug (m :: C2) Z = .node 2 L (.leaf 1)
  sides : Sides t c.key (m :: C2)
  left : m.lt = true
  sib : m.sib = plug D Y
  lefts : ∀ g ∈ D, g.lt = true
  br : b = leftBr t m D
  off : ∀ x, x0 x → ge x c.key → ¬ Sides t x (m :: C2)
def SekM (n : Nat) (t : Tr) (L : PT) (c : Cl) (x0 : ByteArray → Prop) (b : Br) : Md → Prop
  | .seek => ∃ X C1 m C2 f C, SekA t L c b X C1 m C2 f C ∧ X.depth + (PT.node 2 L (.leaf 1)).depth + 3 ≤ n
  | .left => ∃ Y m C2 D Z, SekB t L c b Y x0 m C2 D Z ∧ Y.depth + 1 ≤ n
  | _ => False
structure SekI (n : Nat) (t : Tr) (L : PT) (c : Cl) (x0 : ByteArray → Prop) (s : Stp) : Prop where
  kd : c.kd = .sek
  path : c.path = []
  at_ : ∃ b m, s = .desc b m ∧ SekM n t L c x0 b m
/-- what a Seek tells -/
structure SekF (t : Tr) (L : PT) (k : ByteArray) (x0 : ByteArray → Prop) (a : An) : Prop where
  no : a.ok = false → a = .no ∧ ∀ x, x0 x → ¬ ge x k
  yes : a.ok = true → a.err = 0 ∧ ge a.key k ∧ cont t L a.key = some a.val ∧ ∀ x, x0 x → ge x k → ge x a.key
theorem sekF_found {t : Tr} {L : PT} (hq : Quiet t L) (ho : Ord t (.node 2 L (.leaf 1))) {k : ByteArray} {x0 : ByteArray → Prop} {c : Cl} {l : Nat} (hl : l ∈ (PT.node 2 L (.leaf 1)).leaves) (h1 : (t.nd l).fin = false → ge (t.nd l).key k) (h2 : ∀ x, x0 x → ge x k → (t.nd l).fin = false ∧ ge x (t.nd l).key) :
    (c.found t l).2 = none ∧ SekF t L k x0 (c.found t l).1.ans ∧ (c.found t l).1.kd = c.kd := by
  unfold Cl.found
  cases hf : (t.nd l).fin
  · rw [if_neg Bool.false_ne_true]
    exact ⟨rfl, ⟨(fun e => by cases e), fun _ => ⟨rfl, h1 hf, cont_own hq ho hl hf, fun x hx hg => (h2 x hx hg).2⟩⟩, rfl⟩
  · rw [if_pos rfl]
    exact ⟨rfl, ⟨fun _ => ⟨rfl, fun x hx hg => by have := (h2 x hx hg).1; rw [hf] at this; cases this⟩, (fun e => by cases e)⟩, rfl⟩
theorem sib_depth (f : Fm) (X : PT) : f.sib.depth ≤ (f.fill X).depth ∧ X.depth ≤ (f.fill X).depth := by
  unfold Fm.fill; cases f.lt
  · simp only [Bool.false_eq_true, if_false, PT.depth]; omega
  · simp only [if_true, PT.depth]; omega
theorem plug_depth : ∀ (C : List Fm) (X : PT), X.depth ≤ (plug C X).depth
  | [], X => Nat.le_refl _
  | f :: C, X => Nat.le_trans (sib_depth f X).2 (plug_depth C (f.fill X))
theorem cxOk {t : Tr} {L : PT} (hq : Quiet t L) {C : List Fm} {X : PT} (hp : plug C X = .node 2 L (.leaf 1)) : CxAt t C X.pl ∧ At t X := by
  have := hq.at_
  rw [← hp, at_plug] at this
  exact this
theorem mem_splitb {α : Type} {C1 C2 C : List α} {m f : α} (h : C1 ++ m :: C2 = f :: C) : m ∈ f :: C := by rw [← h]; simp
theorem br_lt {t : Tr} {f : Fm} {k : ByteArray} (h : f.lt = (t.nd f.p).above k) : t.br f = t.toward f.p k := (br_toward h).1.symm
/-- while the tree grows -/
theorem SekI.grow {n : Nat} {t t' : Tr} {L L' : PT} {c : Cl} {x0 : ByteArray → Prop} {s : Stp} (hq : Quiet t L) (hnd : ∀ p, p < t.ns.length → t'.nd p = t.nd p) (hr : Ref (.node 2 L (.leaf 1)) (.node 2 L' (.leaf 1))) (h : SekI n t L c x0 s) : ∃ n', SekI n' t' L' c x0 s := by
  obtain ⟨hk, hpth, b, md, rfl, hm⟩ := h
  have sameS : ∀ {C C' : List Fm} {k : ByteArray}, CRef C C' → (∀ f ∈ C, f.p < t.ns.length) → (Sides t k C ↔ Sides t' k C') := by
    intro C C' k hc hp
    constructor
    · intro hs
      have := hc.all (P := fun f => f.p < t.ns.length ∧ f.lt = (t.nd f.p).above k) (fun f f' hf ⟨h1, h2⟩ => ⟨by rw [hf.p]; exact h1, by rw [hf.p, hf.lt]; exact h2⟩) (fun f hf => ⟨hp f hf, hs f hf⟩)
      intro f hf
      obtain ⟨h1, h2⟩ := this f hf
      rw [hnd _ h1]; exact h2
    · intro hs f hf
      have := hc.back (P := fun f => f.lt = (t'.nd f.p).above k) (fun f f' hf h2 => by rw [← hf.p, ← hf.lt]; exact h2) hs f hf
      rw [hnd _ (hp f hf)] at this; exact this
  cases md with
  | find => exact hm.elim
  | way => exact hm.elim
  | seek =>
    obtain ⟨X, C1, m, C2, f, C, ⟨e1, e2, e3, e4, e5, e6, e7⟩, hn⟩ := hm
    have hpl : ∀ g ∈ f :: C, g.p < t.ns.length := fun g hg => ((cxOk hq e2).1.inOk g hg).lt
    rw [← e2] at hr
    obtain ⟨C', X', h1, h2, h3⟩ := ref_plug hr
    have h2' := h2
    rw [← e1] at h2'
    obtain ⟨A', B', h4, h5, h6⟩ := h2'.split
    cases h6 with
    | cons h7 h8 =>
      rename_i m' C2'
      cases h2 with
      | cons h9 h10 =>
        rename_i f' D'
        refine ⟨_, hk, hpth, _, _, rfl, X', A', m', C2', f', D', ⟨h4.symm, h1.symm, ?_, ?_, by rw [h7.lt]; exact e5, by rw [h7.p]; exact e6, ?_⟩, Nat.le_refl _⟩
        · exact (sameS (.cons h9 h10) hpl).1 e3
        · exact h5.all (P := fun g => g.lt = false) (fun f f' hf h => by rw [hf.lt]; exact h) e4
        · rw [e7]
          unfold Tr.br Tr.left Tr.right
          rw [h9.lt, h9.p, hnd _ (hpl f (by simp))]
  | left =>
    obtain ⟨Y, m, C2, D, Z, ⟨e1, e2, e3, e4, e5, e6, e7⟩, hn⟩ := hm
    have hpl : ∀ g ∈ m :: C2, g.p < t.ns.length := fun g hg => ((cxOk hq e1).1.inOk g hg).lt
    have hcx := (cxOk hq e1).1
    rw [← e1] at hr
    obtain ⟨C', Z', h1, h2, h3⟩ := ref_plug hr
    cases h2 with
    | cons h9 h10 =>
      rename_i m' C2'
      have h11 := h9.sib
      rw [e4] at h11
      obtain ⟨D', Y', h12, h13, h14⟩ := ref_plug h11
      have hatD := hcx.1.2.2.2
      rw [e4, at_plug] at hatD
      refine ⟨_, hk, hpth, _, _, rfl, Y', m', C2', D', Z', ⟨h1.symm, (sameS (.cons h9 h10) hpl).1 e2, by rw [h9.lt]; exact e3, h12, h13.all (P := fun g => g.lt = true) (fun f f' hf h => by rw [hf.lt]; exact h) e5, ?_, fun x hx hg hs => e7 x hx hg ((sameS (.cons h9 h10) hpl).2 hs)⟩, Nat.le_refl _⟩
      rw [e6]
      cases h13 with
      | nil =>
        show t.right m.p = t'.right m'.p
        unfold Tr.right; rw [h9.p, hnd _ (hpl m (by simp))]
      | cons h15 h16 =>
        rename_i g g' E E'
        show t.left g.p = t'.left g'.p
        unfold Tr.left; rw [h15.p, hnd _ (hatD.1.1.1.lt)]
/-- as it begins -/
theorem SekI.start {t : Tr} {L : PT} (hq : Quiet t L) (k : ByteArray) (x0 : ByteArray → Prop) : ∃ n, SekI n t L (Cl.sk t k) x0 (.desc (t.toward 2 k) .seek) := by
  obtain ⟨h1, h2, h3, h4, h5, h6⟩ := hq.top2 k
  have hc : Cl.sk t k = { Cl.new .sek k 0 with over := some 2 } := by unfold Cl.sk; rw [if_pos h1]
  rw [hc, h2]
  exact ⟨_, rfl, rfl, _, _, rfl, L, [], topF, [], topF, [], ⟨rfl, rfl, h6, by simp, rfl, rfl, rfl⟩, Nat.le_refl _⟩
end Go.Proofs.Ytmhiolhgofackaa
