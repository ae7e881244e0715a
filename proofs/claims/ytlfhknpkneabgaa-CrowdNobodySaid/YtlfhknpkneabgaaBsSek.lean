/- PACKAGE bst, PLAINLY: Seek, while the tree grows -/
import Derived.Test.YtlfhknpkneabgaaBsOp
namespace Go.Proofs.Ytlfhknpkneabgaa
open Go.RowKit
set_option linter.unusedVariables false
set_option linter.unusedSimpArgs false

/-- leaves that became trees -/
inductive Ref : PT → PT → Prop
  | leaf (p : Nat) (X : PT) : Ref (.leaf p) X
  | node (p : Nat) {l r l' r' : PT} : Ref l l' → Ref r r' → Ref (.node p l r) (.node p l' r')
theorem Ref.refl : ∀ T, Ref T T
  | .leaf p => .leaf p _
  | .node p l r => .node p (Ref.refl l) (Ref.refl r)
structure SameF (f f' : Fm) : Prop where
  p : f'.p = f.p
  lt : f'.lt = f.lt
  sib : Ref f.sib f'.sib
inductive CRef : List Fm → List Fm → Prop
  | nil : CRef [] []
  | cons {f f' : Fm} {C C' : List Fm} : SameF f f' → CRef C C' → CRef (f :: C) (f' :: C')
theorem ref_fill {f : Fm} {X Y : PT} (h : Ref (f.fill X) Y) : ∃ f' X', Y = f'.fill X' ∧ SameF f f' ∧ Ref X X' := by
  unfold Fm.fill at h
  cases hl : f.lt
  · rw [hl, if_neg Bool.false_ne_true] at h
    cases h with
    | node _ h1 h2 => exact ⟨⟨f.p, false, _⟩, _, rfl, ⟨rfl, hl.symm, h1⟩, h2⟩
  · rw [hl, if_pos rfl] at h
    cases h with
    | node _ h1 h2 => exact ⟨⟨f.p, true, _⟩, _, rfl, ⟨rfl, hl.symm, h2⟩, h1⟩
theorem ref_plug : ∀ {C : List Fm} {X T' : PT}, Ref (plug C X) T' → ∃ C' X', T' = plug C' X' ∧ CRef C C' ∧ Ref X X'
  | [], X, T', h => ⟨[], T', rfl, .nil, h⟩
  | f :: C, X, T', h => by
    obtain ⟨C', Y, rfl, h1, h2⟩ := ref_plug (C := C) (X := f.fill X) h
    obtain ⟨f', X', rfl, h3, h4⟩ := ref_fill h2
    exact ⟨f' :: C', X', rfl, .cons h3 h1, h4⟩
theorem ref_in : ∀ (C : List Fm) {X X' : PT}, Ref X X' → Ref (plug C X) (plug C X')
  | [], _, _, h => h
  | f :: C, X, X', h => ref_in C (by
    unfold Fm.fill
    cases f.lt
    · exact .node _ (Ref.refl _) h
    · exact .node _ h (Ref.refl _))
theorem CRef.split : ∀ {A B C' : List Fm}, CRef (A ++ B) C' → ∃ A' B', C' = A' ++ B' ∧ CRef A A' ∧ CRef B B'
  | [], B, C', h => ⟨[], C', rfl, .nil, h⟩
  | a :: A, B, C', h => by
    cases h with
    | cons h1 h2 =>
      obtain ⟨A', B', rfl, h3, h4⟩ := CRef.split h2
      exact ⟨_ :: A', B', rfl, .cons h1 h3, h4⟩
theorem CRef.all {P : Fm → Prop} : ∀ {C C' : List Fm}, CRef C C' → (∀ f f', SameF f f' → P f → P f') → (∀ f ∈ C, P f) → ∀ f ∈ C', P f
  | _, _, .nil, _, _, f, hf => by cases hf
  | _, _, .cons h1 h2, hP, h, f, hf => by
    rcases List.mem_cons.1 hf with rfl | hf
    · exact hP _ _ h1 (h _ (by simp))
    · exact CRef.all h2 hP (fun g hg => h g (List.mem_cons_of_mem _ hg)) f hf
theorem CRef.back {P : Fm → Prop} : ∀ {C C' : List Fm}, CRef C C' → (∀ f f', SameF f f' → P f' → P f) → (∀ f ∈ C', P f) → ∀ f ∈ C, P f
  | _, _, .nil, _, _, f, hf => by cases hf
  | _, _, .cons h1 h2, hP, h, f, hf => by
    rcases List.mem_cons.1 hf with rfl | hf
    · exact hP _ _ h1 (h _ (by simp))
    · exact CRef.back h2 hP (fun g hg => h g (List.mem_cons_of_mem _ hg)) f hf
/-! the order -/
def ge (x k : ByteArray) : Prop := ls x.toList k.toList = false
theorem not_above {n : Nd} {k : ByteArray} (h : n.above k = false) : n.fin = false ∧ ls k.toList n.key.toList = false := by
  unfold Nd.above at h; rw [Bool.or_eq_false_iff] at h; exact h
/-- left of a node, what isn't below it being right of it -/
theorem left_of {t : Tr} {p q : Nat} {x : ByteArray} (h : SideOk t p true q) (hx : (t.nd p).above x = false) : (t.nd q).fin = false ∧ ls (t.nd q).key.toList x.toList = true := by
  obtain ⟨h1, h2⟩ := not_above hx
  cases hf : (t.nd q).fin
  · have h3 := h.1 hf
    rcases above_iff.1 h3 with h4 | h4
    · rw [h1] at h4; cases h4
    · exact ⟨rfl, ls_trans_le h4 h2⟩
  · have := h.2 hf rfl
    rw [h1] at this; cases this
theorem diverge {t : Tr} {k x : ByteArray} (hx : ge x k) : ∀ (C : List Fm) (X : PT), Sides t k C → ¬ Sides t x C → ∃ C3 g C4, C = C3 ++ g :: C4 ∧ g.lt = true ∧ (t.nd g.p).above x = false ∧ look t x (plug C X) = look t x g.sib
  | [], X, _, h => absurd (fun f hf => by cases hf) h
  | f :: C, X, hs, h => by
    by_cases hC : Sides t x C
    · have hfx : ¬ f.lt = (t.nd f.p).above x := fun e => h (fun g hg => by
        rcases List.mem_cons.1 hg with rfl | hg
        · exact e
        · exact hC g hg)
      have hfk := hs f (by simp)
      have hl : f.lt = true := by
        cases hf : f.lt
        · rw [hf] at hfk hfx
          obtain ⟨h1, h2⟩ := not_above hfk.symm
          exfalso
          apply hfx
          symm
          unfold Nd.above
          rw [h1, Bool.false_or]
          exact le_trans' h2 hx
        · rfl
      have hab : (t.nd f.p).above x = false := by
        cases ha : (t.nd f.p).above x
        · rfl
        · rw [hl, ha] at hfx; exact absurd rfl hfx
      refine ⟨[], f, C, rfl, hl, hab, ?_⟩
      show look t x (plug C (f.fill X)) = _
      rw [(look_plug t x C _).1 hC, look_fill, hab, hl, if_neg (by simp)]
    · obtain ⟨C3, g, C4, e, h1, h2, h3⟩ := diverge hx C (f.fill X) (fun g hg => hs g (List.mem_cons_of_mem _ hg)) hC
      exact ⟨f :: C3, g, C4, by rw [e]; rfl, h1, h2, h3⟩
def PT.first : PT → Nat
  | .leaf p => p
  | .node _ l _ => l.first
theorem first_in : ∀ T : PT, T.first ∈ T.leaves
  | .leaf p => by simp [PT.first, PT.leaves]
  | .node p l r => List.mem_append_left _ (first_in l)
theorem first_least {t : Tr} : ∀ {T : PT}, Ord t T → ∀ r ∈ T.leaves, (t.nd r).fin = false → (t.nd T.first).fin = false ∧ ge (t.nd r).key (t.nd T.first).key
  | .leaf p, _, r, hr, hf => by
    simp [PT.leaves] at hr; subst hr
    exact ⟨hf, ls_irrefl _⟩
  | .node p l r', ⟨h1, h2, h3, h4⟩, r, hr, hf => by
    rcases List.mem_append.1 hr with hr | hr
    · exact first_least h3 r hr hf
    · have hab := (h2 r hr).1 hf
      obtain ⟨a, b⟩ := left_of (h1 _ (first_in l)) hab
      exact ⟨a, ls_asymm b⟩
theorem first_plug : ∀ (D : List Fm) (X : PT), (∀ g ∈ D, g.lt = true) → (plug D X).first = X.first
  | [], X, _ => rfl
  | f :: D, X, h => by
    show (plug D (f.fill X)).first = _
    rw [first_plug D _ (fun g hg => h g (List.mem_cons_of_mem _ hg))]
    unfold Fm.fill; rw [h f (by simp)]; rfl
theorem look_own {t : Tr} : ∀ {T : PT}, Ord t T → ∀ q ∈ T.leaves, (t.nd q).fin = false → look t (t.nd q).key T = q
  | .leaf p, _, q, hq, _ => by simp [PT.leaves] at hq; subst hq; rfl
  | .node p l r, ⟨h1, h2, h3, h4⟩, q, hq, hf => by
    show (if (t.nd p).above (t.nd q).key then _ else _) = q
    rcases List.mem_append.1 hq with hq | hq
    · rw [(h1 q hq).1 hf, if_pos rfl]; exact look_own h3 q hq hf
    · rw [(h2 q hq).1 hf, if_neg Bool.false_ne_true]; exact look_own h4 q hq hf
theorem plug_leaves : ∀ (C : List Fm) (X : PT) (q : Nat), q ∈ X.leaves → q ∈ (plug C X).leaves
  | [], _, _, h => h
  | f :: C, X, q, h => plug_leaves C (f.fill X) q ((fill_leaves f X q).2 (Or.inl h))
theorem look_top {t : Tr} {L : PT} (hq : Quiet t L) (k : ByteArray) : look t k (.node 2 L (.leaf 1)) = look t k L := by
  show (if (t.nd 2).above k then _ else _) = _
  rw [if_pos (hq.top2 k).1]
theorem cont_of {t : Tr} {L : PT} {k : ByteArray} (h : cont t L k ≠ none) : (t.nd (look t k L)).has k = true := by
  unfold cont at h
  split at h
  · assumption
  · exact absurd rfl h
theorem cont_own {t : Tr} {L : PT} (hq : Quiet t L) (ho : Ord t (.node 2 L (.leaf 1))) {q : Nat} (hl : q ∈ (PT.node 2 L (.leaf 1)).leaves) (hf : (t.nd q).fin = false) : cont t L (t.nd q).key = some (t.nd q).val := by
  have := look_own ho q hl hf
  rw [look_top hq] at this
  unfold cont
  rw [this, if_pos (has_iff.2 ⟨hf, rfl⟩)]
/-! where a Seek is -/
def leftBr (t : Tr) (m : Fm) : List Fm → Br
  | [] => t.right m.p
  | g :: _ => t.left g.p
structure SekA (t : Tr) (L : PT) (c : Cl) (b : Br) (X : PT) (C1 : List Fm) (m : Fm) (C2 : List Fm) (f : Fm) (C : List Fm) : Prop where
  eq : C1 ++ m :: C2 = f :: C
  pl : plug (f :: C) X = .node 2 L (.leaf 1)
  sides : Sides t c.key (f :: C)
  right : ∀ g ∈ C1, g.lt = false
  left : m.lt = true
  over : c.over = some m.p
  br : b = t.br f
structure SekB (t : Tr) (L : PT) (c : Cl) (b : Br) (Y : PT) (x0 : ByteArray → Prop) (m : Fm) (C2 D : List Fm) (Z : PT) : Prop where
  pl : plug (m :: C2) Z = .node 2 L (.leaf 1)
  sides : Sides t c.key (m :: C2)
  left : m.lt = true
  sib : m.sib = plug D Y
  lefts : ∀ g ∈ D, g.lt = true
  br : b = leftBr t m D
  off : ∀ x, x0 x → ge x c.key → ¬ Sides t x (m :: C2)
def SekM (n : Nat) (t : Tr) (L : PT) (c : Cl) (x0 : ByteArray → Prop) (b : Br) : Md → Prop
  | .seek => ∃ X C1 m C2 f C, SekA t L c b X C1 m C2 f C ∧ X.depth + (PT.node 2 L (.leaf 1)).depth + 3 ≤ n
  | .left => ∃ Y m C2 D Z, SekB t L c b Y x0 m C2 D Z ∧ Y.depth + 1 ≤ n
  | _ => False
structure SekI (n : Nat) (t : Tr) (L : PT) (c : Cl) (x0 : ByteArray → Prop) (s : Stp) : Prop where
  kd : c.kd = .sek
  path : c.path = []
  at_ : ∃ b m, s = .desc b m ∧ SekM n t L c x0 b m
/-- what a Seek tells -/
structure SekF (t : Tr) (L : PT) (k : ByteArray) (x0 : ByteArray → Prop) (a : An) : Prop where
  no : a.ok = false → a = .no ∧ ∀ x, x0 x → ¬ ge x k
  yes : a.ok = true → a.err = 0 ∧ ge a.key k ∧ cont t L a.key = some a.val ∧ ∀ x, x0 x → ge x k → ge x a.key
theorem sekF_found {t : Tr} {L : PT} (hq : Quiet t L) (ho : Ord t (.node 2 L (.leaf 1))) {k : ByteArray} {x0 : ByteArray → Prop} {c : Cl} {l : Nat} (hl : l ∈ (PT.node 2 L (.leaf 1)).leaves) (h1 : (t.nd l).fin = false → ge (t.nd l).key k) (h2 : ∀ x, x0 x → ge x k → (t.nd l).fin = false ∧ ge x (t.nd l).key) :
    (c.found t l).2 = none ∧ SekF t L k x0 (c.found t l).1.ans ∧ (c.found t l).1.kd = c.kd := by
  unfold Cl.found
  cases hf : (t.nd l).fin
  · rw [if_neg Bool.false_ne_true]
    exact ⟨rfl, ⟨(fun e => by cases e), fun _ => ⟨rfl, h1 hf, cont_own hq ho hl hf, fun x hx hg => (h2 x hx hg).2⟩⟩, rfl⟩
  · rw [if_pos rfl]
    exact ⟨rfl, ⟨fun _ => ⟨rfl, fun x hx hg => by have := (h2 x hx hg).1; rw [hf] at this; cases this⟩, (fun e => by cases e)⟩, rfl⟩
theorem sib_depth (f : Fm) (X : PT) : f.sib.depth ≤ (f.fill X).depth ∧ X.depth ≤ (f.fill X).depth := by
  unfold Fm.fill; cases f.lt
  · simp only [Bool.false_eq_true, if_false, PT.depth]; omega
  · simp only [if_true, PT.depth]; omega
theorem plug_depth : ∀ (C : List Fm) (X : PT), X.depth ≤ (plug C X).depth
  | [], X => Nat.le_refl _
  | f :: C, X => Nat.le_trans (sib_depth f X).2 (plug_depth C (f.fill X))
theorem cxOk {t : Tr} {L : PT} (hq : Quiet t L) {C : List Fm} {X : PT} (hp : plug C X = .node 2 L (.leaf 1)) : CxAt t C X.pl ∧ At t X := by
  have := hq.at_
  rw [← hp, at_plug] at this
  exact this
theorem mem_splitb {α : Type} {C1 C2 C : List α} {m f : α} (h : C1 ++ m :: C2 = f :: C) : m ∈ f :: C := by rw [← h]; simp
theorem br_lt {t : Tr} {f : Fm} {k : ByteArray} (h : f.lt = (t.nd f.p).above k) : t.br f = t.toward f.p k := (br_toward h).1.symm
theorem sek_step {n : Nat} {t : Tr} {L : PT} {c : Cl} {x0 : ByteArray → Prop} {s : Stp} (hq : Quiet t L) (ho : Ord t (.node 2 L (.leaf 1))) (hx : ∀ x, x0 x → cont t L x ≠ none) (hl : t.ns.length ≤ 65536) (h : SekI n t L c x0 s) :
    StepOk t c s ∧ SameC t (stepP t c s).1 ∧ (stepP t c s).1.ms.n ≤ t.ms.n + 1 ∧ t.ms.n ≤ (stepP t c s).1.ms.n ∧ (stepP t c s).2.1.kd = .sek ∧ (stepP t c s).2.1.key = c.key ∧ match (stepP t c s).2.2 with
      | none => SekF t L c.key x0 (stepP t c s).2.1.ans
      | some s' => ∃ n', n' < n ∧ SekI n' t L (stepP t c s).2.1 x0 s' := by
  obtain ⟨hk, hpth, b, md, rfl, hm⟩ := h
  obtain ⟨q, hkid⟩ : ∃ q, q = t.kid b := ⟨_, rfl⟩
  have hsame := SameC.ask t b.cell
  have hst : stepP t c (.desc b md) = (t.ask b.cell, c.desc (t.ask b.cell) q md) := by rw [hkid]; rfl
  have hask := ask_n t b.cell
  have hplen : c.path.length ≤ 1000000000 := by rw [hpth]; simp
  rw [hst]
  dsimp only
  cases md with
  | find => exact hm.elim
  | way => exact hm.elim
  | seek =>
    obtain ⟨X, C1, m, C2, f, C, ⟨e1, e2, e3, e4, e5, e6, e7⟩, hn⟩ := hm
    obtain ⟨hcx, hatX⟩ := cxOk hq e2
    obtain ⟨⟨f1, f2, f3, f4⟩, f5⟩ := hcx
    have hqX : q = X.pl := by rw [hkid, e7]; exact f2
    have hmin : m ∈ f :: C := mem_splitb e1
    have hmok := (cxOk hq e2).1.inOk m hmin
    have hqlt : q < t.ns.length := by rw [hqX]; exact kid_lt hatX
    have how := ho
    rw [← e2, ord_plug] at how
    cases X with
    | node p l r =>
      have hqp : q = p := hqX
      subst hqp
      obtain ⟨a1, a2, a3, a4, a5⟩ := hatX
      have hin : (t.nd q).inner = true := a1.inner
      have hd : c.desc (t.ask b.cell) q .seek = ((c.toward t q .seek).1, some (.desc (t.toward q c.key) .seek)) := by
        unfold Cl.desc
        rw [hsame.nd, hin, if_pos rfl, Cl.toward_same hsame]
        have : (c.toward (t.ask b.cell) q .seek).2 = t.toward q c.key := hsame.toward _ _
        rw [this]
      rw [hd]
      obtain ⟨k1, k2, _⟩ := Cl.toward_key t c q .seek
      refine ⟨⟨by rw [hk]; exact seekOk, by rw [← hkid]; exact ⟨hqlt, hplen, fun _ => a1.nd hl, fun e => by rw [hin] at e; cases e⟩⟩, hsame, hask.2, hask.1, by rw [k2]; exact hk, k1, ?_⟩
      dsimp only
      have hdd : PT.depth (.node q l r) = max l.depth r.depth + 1 := rfl
      cases hab : (t.nd q).above c.key
      · have hto : (c.toward t q .seek).1 = c := by unfold Cl.toward; dsimp only; rw [hab, if_neg Bool.false_ne_true]
        rw [hto]
        refine ⟨n - 1, by omega, hk, hpth, _, _, rfl, r, ⟨q, false, l⟩ :: C1, m, C2, ⟨q, false, l⟩, f :: C, ⟨by rw [List.cons_append, e1], e2, ?_, ?_, e5, e6, ?_⟩, by omega⟩
        · intro g hg
          rcases List.mem_cons.1 hg with rfl | hg
          · exact hab.symm
          · exact e3 g hg
        · intro g hg
          rcases List.mem_cons.1 hg with rfl | hg
          · rfl
          · exact e4 g hg
        · unfold Tr.toward; rw [hab]; rfl
      · have hto : (c.toward t q .seek).1 = { c with over := some q } := by unfold Cl.toward; dsimp only; rw [hab, if_pos rfl]
        rw [hto]
        refine ⟨n - 1, by omega, hk, hpth, _, _, rfl, l, [], ⟨q, true, r⟩, f :: C, ⟨q, true, r⟩, f :: C, ⟨rfl, e2, ?_, by simp, rfl, rfl, ?_⟩, by omega⟩
        · intro g hg
          rcases List.mem_cons.1 hg with rfl | hg
          · exact hab.symm
          · exact e3 g hg
        · unfold Tr.toward; rw [hab]; rfl
    | leaf l =>
      have hql : q = l := hqX
      subst hql
      have hin : (t.nd q).inner = false := hatX.2
      have hd : c.desc (t.ask b.cell) q .seek = c.leaf t q .seek := by unfold Cl.desc; rw [hsame.nd, hin, if_neg Bool.false_ne_true, leaf_same hsame]
      have hleaf : c.leaf t q .seek = if (t.nd q).above c.key || (t.nd q).has c.key then c.found t q else (c, some (.desc (t.right (c.over.getD 0)) .left)) := by unfold Cl.leaf; rw [hk]
      rw [hd, hleaf]
      have hok : StepOk t c (.desc b .seek) := ⟨by rw [hk]; exact seekOk, by rw [← hkid]; exact ⟨hqlt, hplen, (fun e => by rw [hin] at e; cases e), fun _ => ⟨hqlt, hplen, (fun e => by rw [hk] at e; cases e), (fun e => by rw [hk] at e; cases e), fun _ _ _ => ⟨_, e6, hmok.nd hl⟩⟩⟩⟩
      have hlin : q ∈ (PT.node 2 L (.leaf 1)).leaves := by rw [← e2]; exact plug_leaves (f :: C) _ q (by simp [PT.leaves])
      have hlook : ∀ x, x0 x → (t.nd (look t x (plug (f :: C) (.leaf q)))).has x = true := fun x hx0 => by rw [e2, look_top hq]; exact cont_of (hx x hx0)
      cases hab : ((t.nd q).above c.key || (t.nd q).has c.key)
      · rw [if_neg Bool.false_ne_true, e6]
        refine ⟨hok, hsame, hask.2, hask.1, hk, rfl, ?_⟩
        dsimp only
        rw [Bool.or_eq_false_iff] at hab
        obtain ⟨b1, b2⟩ := not_above hab.1
        have hds : m.sib.depth ≤ (PT.node 2 L (.leaf 1)).depth := by
          have h9 : plug C2 (m.fill (plug C1 (.leaf q))) = .node 2 L (.leaf 1) := by
            rw [← e2, ← e1]
            clear e1 e2 e3 e4 hmin f5 how hlook hn hlin hmok
            generalize PT.leaf q = Y
            induction C1 generalizing Y with
            | nil => rfl
            | cons a C1 ih => exact ih (a.fill Y)
          rw [← h9]
          exact Nat.le_trans (sib_depth m _).1 (plug_depth C2 _)
        have h9 : plug (m :: C2) (plug C1 (.leaf q)) = .node 2 L (.leaf 1) := by
          rw [← e2, ← e1]
          clear e1 e2 e3 e4 hmin f5 how hlook hn hlin hmok hds
          generalize PT.leaf q = Y
          induction C1 generalizing Y with
          | nil => rfl
          | cons a C1 ih => exact ih (a.fill Y)
        refine ⟨m.sib.depth + 1, by simp only [PT.depth] at hn hds ⊢; omega, hk, hpth, _, _, rfl, m.sib, m, C2, [], plug C1 (.leaf q), ⟨h9, fun g hg => e3 g (by rw [← e1]; exact List.mem_append_right _ hg), e5, rfl, by simp, rfl, fun x hx0 hge hsx => ?_⟩, Nat.le_refl _⟩
        have hall : Sides t x (f :: C) := fun g hg => by
          rw [← e1] at hg
          rcases List.mem_append.1 hg with hg | hg
          · have h1 := e3 g (by rw [← e1]; exact List.mem_append_left _ hg)
            rw [e4 g hg] at h1 ⊢
            obtain ⟨h2, h3⟩ := not_above h1.symm
            symm
            unfold Nd.above
            rw [h2, Bool.false_or]
            exact le_trans' h3 hge
          · exact hsx g hg
        have h1 := hlook x hx0
        rw [(look_plug t x (f :: C) _).1 hall] at h1
        obtain ⟨h2, h3⟩ := has_iff.1 h1
        have h4 : (t.nd q).key = x := h3
        have h5 : ls x.toList c.key.toList = false := hge
        have h6 : ls c.key.toList x.toList = false := by rw [← h4]; exact b2
        have h7 := bs_inj (ls_total h5 h6)
        rw [h7] at h4
        have := (has_iff (n := t.nd q) (k := c.key)).2 ⟨b1, h4⟩
        rw [hab.2] at this; cases this
      · rw [if_pos rfl]
        have hge : (t.nd q).fin = false → ge (t.nd q).key c.key := fun hf => by
          rw [Bool.or_eq_true] at hab
          rcases hab with h1 | h1
          · rcases above_iff.1 h1 with h2 | h2
            · rw [hf] at h2; cases h2
            · exact ls_asymm h2
          · rw [(has_iff.1 h1).2]; exact ls_irrefl _
        obtain ⟨r1, r2, r3⟩ := sekF_found (c := c) (x0 := x0) (k := c.key) hq ho hlin hge (fun x hx0 hgx => by
          by_cases hsx : Sides t x (f :: C)
          · have h1 := hlook x hx0
            rw [(look_plug t x (f :: C) _).1 hsx] at h1
            obtain ⟨h2, h3⟩ := has_iff.1 h1
            exact ⟨h2, by rw [← h3]; exact ls_irrefl _⟩
          · obtain ⟨C3, g, C4, g1, g2, g3, g4⟩ := diverge hgx (f :: C) (.leaf q) e3 hsx
            have h1 := how.2.2 g (by rw [g1]; simp) q (by simp [PT.leaves])
            rw [g2] at h1
            obtain ⟨h2, h3⟩ := left_of h1 g3
            exact ⟨h2, ls_asymm h3⟩)
        refine ⟨hok, hsame, hask.2, hask.1, by rw [r3]; exact hk, ?_, ?_⟩
        · unfold Cl.found; split <;> rfl
        · rw [r1]; exact r2
  | left =>
    obtain ⟨Y, m, C2, D, Z, ⟨e1, e2, e3, e4, e5, e6, e7⟩, hn⟩ := hm
    obtain ⟨hcx, hatZ⟩ := cxOk hq e1
    obtain ⟨⟨f1, f2, f3, f4⟩, f5⟩ := hcx
    have hatD := f4
    rw [e4, at_plug] at hatD
    obtain ⟨hcD, hatY⟩ := hatD
    have hqY : q = Y.pl := by
      rw [hkid, e6]
      cases D with
      | nil =>
        have : t.br' m = t.right m.p := by unfold Tr.br'; rw [e3]; rfl
        rw [this, e4] at f3
        exact f3
      | cons g D =>
        have : t.br g = t.left g.p := by unfold Tr.br; rw [e5 g (by simp)]; rfl
        have h1 := hcD.1.2.1
        rw [this] at h1
        exact h1
    have hqlt : q < t.ns.length := by rw [hqY]; exact kid_lt hatY
    have how := ho
    rw [← e1, ord_plug] at how
    cases Y with
    | node p l r =>
      have hqp : q = p := hqY
      subst hqp
      obtain ⟨a1, a2, a3, a4, a5⟩ := hatY
      have hin : (t.nd q).inner = true := a1.inner
      have hd : c.desc (t.ask b.cell) q .left = (c, some (.desc (t.left q) .left)) := by
        unfold Cl.desc
        rw [hsame.nd, hin, if_pos rfl]
        show (c, some (Stp.desc ((t.ask b.cell).left q) .left)) = _
        rw [hsame.left]
      rw [hd]
      refine ⟨⟨by rw [hk]; exact seekOk, by rw [← hkid]; exact ⟨hqlt, hplen, fun _ => a1.nd hl, fun e => by rw [hin] at e; cases e⟩⟩, hsame, hask.2, hask.1, hk, rfl, ?_⟩
      dsimp only
      have hdd : PT.depth (.node q l r) = max l.depth r.depth + 1 := rfl
      refine ⟨n - 1, by omega, hk, hpth, _, _, rfl, l, m, C2, ⟨q, true, r⟩ :: D, Z, ⟨e1, e2, e3, e4, ?_, rfl, e7⟩, by omega⟩
      intro g hg
      rcases List.mem_cons.1 hg with rfl | hg
      · rfl
      · exact e5 g hg
    | leaf l =>
      have hql : q = l := hqY
      subst hql
      have hin : (t.nd q).inner = false := hatY.2
      have hd : c.desc (t.ask b.cell) q .left = c.found t q := by
        unfold Cl.desc; rw [hsame.nd, hin, if_neg Bool.false_ne_true, leaf_same hsame]
        unfold Cl.leaf; rw [hk]
      rw [hd]
      have hok : StepOk t c (.desc b .left) := ⟨by rw [hk]; exact seekOk, by rw [← hkid]; exact ⟨hqlt, hplen, (fun e => by rw [hin] at e; cases e), fun _ => ⟨hqlt, hplen, (fun e => by rw [hk] at e; cases e), (fun e => by rw [hk] at e; cases e), fun _ e => by cases e⟩⟩⟩
      have hsib : q ∈ m.sib.leaves := by rw [e4]; exact plug_leaves D _ q (by simp [PT.leaves])
      have hfirst : m.sib.first = q := by rw [e4, first_plug D _ e5]; rfl
      have hlin : q ∈ (PT.node 2 L (.leaf 1)).leaves := by rw [← e1]; exact plug_leaves C2 (m.fill Z) q ((fill_leaves m Z q).2 (Or.inr hsib))
      obtain ⟨⟨o1, o2, o3, o4⟩, o5, o6⟩ := how
      have hms := o1 q hsib
      rw [e3] at hms
      have hmk : (t.nd m.p).above c.key = true := by rw [← e2 m (by simp)]; exact e3
      have hge : (t.nd q).fin = false → ge (t.nd q).key c.key := fun hf => by
        obtain ⟨h1, h2⟩ := not_above (hms.1 hf)
        rcases above_iff.1 hmk with h3 | h3
        · rw [h1] at h3; cases h3
        · exact ls_asymm (ls_trans_le h3 h2)
      obtain ⟨r1, r2, r3⟩ := sekF_found (c := c) (x0 := x0) (k := c.key) hq ho hlin hge (fun x hx0 hgx => by
        have hlook : (t.nd (look t x (plug (m :: C2) Z))).has x = true := by rw [e1, look_top hq]; exact cont_of (hx x hx0)
        obtain ⟨C3, g, C4, g1, g2, g3, g4⟩ := diverge hgx (m :: C2) Z e2 (e7 x hx0 hgx)
        rw [g4] at hlook
        obtain ⟨h2, h3⟩ := has_iff.1 hlook
        cases C3 with
        | nil =>
          simp only [List.nil_append, List.cons.injEq] at g1
          obtain ⟨rfl, rfl⟩ := g1
          have := first_least o2 _ (look_leaf t x m.sib) h2
          rw [hfirst, h3] at this
          exact this
        | cons a C3 =>
          simp only [List.cons_append, List.cons.injEq] at g1
          obtain ⟨rfl, rfl⟩ := g1
          have h1 := o3 g (by simp) q hsib
          rw [g2] at h1
          obtain ⟨h4, h5⟩ := left_of h1 g3
          exact ⟨h4, ls_asymm h5⟩)
      refine ⟨hok, hsame, hask.2, hask.1, by rw [r3]; exact hk, ?_, ?_⟩
      · unfold Cl.found; split <;> rfl
      · rw [r1]; exact r2
/-- while the tree grows -/
theorem SekI.grow {n : Nat} {t t' : Tr} {L L' : PT} {c : Cl} {x0 : ByteArray → Prop} {s : Stp} (hq : Quiet t L) (hnd : ∀ p, p < t.ns.length → t'.nd p = t.nd p) (hr : Ref (.node 2 L (.leaf 1)) (.node 2 L' (.leaf 1))) (h : SekI n t L c x0 s) : ∃ n', SekI n' t' L' c x0 s := by
  obtain ⟨hk, hpth, b, md, rfl, hm⟩ := h
  have sameS : ∀ {C C' : List Fm} {k : ByteArray}, CRef C C' → (∀ f ∈ C, f.p < t.ns.length) → (Sides t k C ↔ Sides t' k C') := by
    intro C C' k hc hp
    constructor
    · intro hs
      have := hc.all (P := fun f => f.p < t.ns.length ∧ f.lt = (t.nd f.p).above k) (fun f f' hf ⟨h1, h2⟩ => ⟨by rw [hf.p]; exact h1, by rw [hf.p, hf.lt]; exact h2⟩) (fun f hf => ⟨hp f hf, hs f hf⟩)
      intro f hf
      obtain ⟨h1, h2⟩ := this f hf
      rw [hnd _ h1]; exact h2
    · intro hs f hf
      have := hc.back (P := fun f => f.lt = (t'.nd f.p).above k) (fun f f' hf h2 => by rw [← hf.p, ← hf.lt]; exact h2) hs f hf
      rw [hnd _ (hp f hf)] at this; exact this
  cases md with
  | find => exact hm.elim
  | way => exact hm.elim
  | seek =>
    obtain ⟨X, C1, m, C2, f, C, ⟨e1, e2, e3, e4, e5, e6, e7⟩, hn⟩ := hm
    have hpl : ∀ g ∈ f :: C, g.p < t.ns.length := fun g hg => ((cxOk hq e2).1.inOk g hg).lt
    rw [← e2] at hr
    obtain ⟨C', X', h1, h2, h3⟩ := ref_plug hr
    have h2' := h2
    rw [← e1] at h2'
    obtain ⟨A', B', h4, h5, h6⟩ := h2'.split
    cases h6 with
    | cons h7 h8 =>
      rename_i m' C2'
      cases h2 with
      | cons h9 h10 =>
        rename_i f' D'
        refine ⟨_, hk, hpth, _, _, rfl, X', A', m', C2', f', D', ⟨h4.symm, h1.symm, ?_, ?_, by rw [h7.lt]; exact e5, by rw [h7.p]; exact e6, ?_⟩, Nat.le_refl _⟩
        · exact (sameS (.cons h9 h10) hpl).1 e3
        · exact h5.all (P := fun g => g.lt = false) (fun f f' hf h => by rw [hf.lt]; exact h) e4
        · rw [e7]
          unfold Tr.br Tr.left Tr.right
          rw [h9.lt, h9.p, hnd _ (hpl f (by simp))]
  | left =>
    obtain ⟨Y, m, C2, D, Z, ⟨e1, e2, e3, e4, e5, e6, e7⟩, hn⟩ := hm
    have hpl : ∀ g ∈ m :: C2, g.p < t.ns.length := fun g hg => ((cxOk hq e1).1.inOk g hg).lt
    have hcx := (cxOk hq e1).1
    rw [← e1] at hr
    obtain ⟨C', Z', h1, h2, h3⟩ := ref_plug hr
    cases h2 with
    | cons h9 h10 =>
      rename_i m' C2'
      have h11 := h9.sib
      rw [e4] at h11
      obtain ⟨D', Y', h12, h13, h14⟩ := ref_plug h11
      have hatD := hcx.1.2.2.2
      rw [e4, at_plug] at hatD
      refine ⟨_, hk, hpth, _, _, rfl, Y', m', C2', D', Z', ⟨h1.symm, (sameS (.cons h9 h10) hpl).1 e2, by rw [h9.lt]; exact e3, h12, h13.all (P := fun g => g.lt = true) (fun f f' hf h => by rw [hf.lt]; exact h) e5, ?_, fun x hx hg hs => e7 x hx hg ((sameS (.cons h9 h10) hpl).2 hs)⟩, Nat.le_refl _⟩
      rw [e6]
      cases h13 with
      | nil =>
        show t.right m.p = t'.right m'.p
        unfold Tr.right; rw [h9.p, hnd _ (hpl m (by simp))]
      | cons h15 h16 =>
        rename_i g g' E E'
        show t.left g.p = t'.left g'.p
        unfold Tr.left; rw [h15.p, hnd _ (hatD.1.1.1.lt)]
/-- as it begins -/
theorem SekI.start {t : Tr} {L : PT} (hq : Quiet t L) (k : ByteArray) (x0 : ByteArray → Prop) : ∃ n, SekI n t L (Cl.sk t k) x0 (.desc (t.toward 2 k) .seek) := by
  obtain ⟨h1, h2, h3, h4, h5, h6⟩ := hq.top2 k
  have hc : Cl.sk t k = { Cl.new .sek k 0 with over := some 2 } := by unfold Cl.sk; rw [if_pos h1]
  rw [hc, h2]
  exact ⟨_, rfl, rfl, _, _, rfl, L, [], topF, [], topF, [], ⟨rfl, rfl, h6, by simp, rfl, rfl, rfl⟩, Nat.le_refl _⟩
/-- it comes to its end, with nobody else at work -/
theorem SekI.run {L : PT} {x0 : ByteArray → Prop} {k : ByteArray} : ∀ (n : Nat) (t : Tr) (c : Cl) (s : Stp) (j : Nat), Quiet t L → Ord t (.node 2 L (.leaf 1)) → (∀ x, x0 x → cont t L x ≠ none) → c.key = k → SekI n t L c x0 s → Room t (j + n) → ∃ T C, OkRun (n + 1) t c s T C ∧ SameC t T ∧ T.ms.n ≤ t.ms.n + n ∧ SekF T L k x0 C.ans := by
  intro n
  induction n using Nat.strongRecOn with
  | _ n ih =>
    intro t c s j hq ho hx hk h hr
    obtain ⟨h1, h2, h3, h3', h4, h5, h6⟩ := sek_step hq ho hx hr.ns h
    have hn1 : 1 ≤ n := by
      obtain ⟨_, _, b, md, _, hm⟩ := h
      cases md with
      | find => exact hm.elim
      | way => exact hm.elim
      | seek => obtain ⟨X, _, _, _, _, _, _, hn⟩ := hm; omega
      | left => obtain ⟨X, _, _, _, _, _, hn⟩ := hm; omega
    have hsm : Small t c := hr.small (by rw [h.path]; simp)
    cases ho2 : (stepP t c s).2.2 with
    | none =>
      rw [ho2] at h6
      refine ⟨(stepP t c s).1, (stepP t c s).2.1, ⟨h1, hsm, ?_⟩, h2, by omega, ?_⟩
      · rw [ho2]; exact ⟨rfl, rfl⟩
      · obtain ⟨g1, g2⟩ := h6
        rw [hk] at g1 g2
        exact ⟨g1, fun e => by rw [h2.cont]; exact g2 e⟩
    | some s' =>
      rw [ho2] at h6
      obtain ⟨n', hn', hi⟩ := h6
      have hi2 : ∃ n2, n2 ≤ n' ∧ SekI n2 (stepP t c s).1 L (stepP t c s).2.1 x0 s' := by
        have := hi
        obtain ⟨k1, k2, b, md, rfl, hm⟩ := this
        have hnd := h2.nd
        refine ⟨n', Nat.le_refl _, k1, k2, b, md, rfl, ?_⟩
        have hS : ∀ {x : ByteArray} {C : List Fm}, Sides (stepP t c s).1 x C ↔ Sides t x C := fun {x C} => by
          unfold Sides; simp only [hnd]
        cases md with
        | find => exact hm.elim
        | way => exact hm.elim
        | seek =>
          obtain ⟨X, C1, m, C2, f, C, ⟨e1, e2, e3, e4, e5, e6, e7⟩, hn⟩ := hm
          exact ⟨X, C1, m, C2, f, C, ⟨e1, e2, hS.2 e3, e4, e5, e6, by rw [e7]; unfold Tr.br; rw [h2.left, h2.right]⟩, hn⟩
        | left =>
          obtain ⟨Y, m, C2, D, Z, ⟨e1, e2, e3, e4, e5, e6, e7⟩, hn⟩ := hm
          refine ⟨Y, m, C2, D, Z, ⟨e1, hS.2 e2, e3, e4, e5, ?_, fun x a b d => e7 x a b (hS.1 d)⟩, hn⟩
          rw [e6]
          cases D with
          | nil => exact (h2.right _).symm
          | cons g D => exact (h2.left _).symm
      obtain ⟨n2, hn2, hi2⟩ := hi2
      obtain ⟨T, C, r1, r2, r3, r4⟩ := ih n2 (by omega) (stepP t c s).1 (stepP t c s).2.1 s' j (h2.quiet hq) (h2.ord ho) (fun x hx0 => by rw [h2.cont]; exact hx x hx0) (by rw [h5]; exact hk) hi2 (Room.same (j := 1) ⟨hr.cells, hr.ns, by have := hr.asked; omega, hr.ws⟩ h2 h3)
      refine ⟨T, C, ⟨h1, hsm, ?_⟩, h2.trans r2, by omega, r4⟩
      rw [ho2]
      exact r1.mono (by omega)
end Go.Proofs.Ytlfhknpkneabgaa
