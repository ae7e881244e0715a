/- WATCHES, AND TREES OF THEM, PLAINLY: a tree's list; balance, add, first, join, drop told by lists -/
import Derived.Test.YtcieokfjkfpajaaKeyMt
import Derived.Test.YtcieokfjkfpajaaAway
namespace Go.Proofs.Ytcieokfjkfpajaa
open Go.RowKit
set_option linter.unusedVariables false
set_option linter.unusedSimpArgs false

/-- a watch -/
structure Sb where
  id : Int
  rev : Int
  f : ByteArray
  t : ByteArray
deriving DecidableEq
def Sb.cells (s : Sb) : List Value := [.int .i64 s.id, .int .i64 s.rev, .string s.f, .string s.t]
def Sb.val (s : Sb) : Value := .agg #[.int .i64 s.id, .int .i64 s.rev, .string s.f, .string s.t]
theorem Sb.clen (s : Sb) : s.cells.length = 4 := rfl
theorem Sb.cone (s : Sb) : ∀ y ∈ s.cells, y.oneCell' = true := by
  intro y hy
  simp only [Sb.cells, List.mem_cons, List.not_mem_nil, or_false] at hy
  rcases hy with rfl | rfl | rfl | rfl <;> rfl
/-- it wants k's event at rev -/
def Sb.want (k : Bs) (rev : Int) (s : Sb) : Bool := decide (s.rev < rev) && inB s.f.toList s.t.toList k
/-- ahead -/
def lsS (a b : Sb) : Bool := ls a.f.toList b.f.toList || (a.f.toList == b.f.toList && decide (a.id < b.id))
theorem lsS_irrefl (a : Sb) : lsS a a = false := by simp [lsS, ls_irrefl]
theorem lsS_asymm {a b : Sb} (h : lsS a b = true) : lsS b a = false := by
  simp only [lsS, Bool.or_eq_true, Bool.and_eq_true, beq_iff_eq, decide_eq_true_eq, Bool.or_eq_false_iff, Bool.and_eq_false_iff, decide_eq_false_iff_not] at h ⊢
  rcases h with h | ⟨h1, h2⟩
  · exact ⟨ls_asymm h, Or.inl (by rw [beq_eq_false_iff_ne]; intro e; rw [e, ls_irrefl] at h; cases h)⟩
  · exact ⟨by rw [h1]; exact ls_irrefl _, Or.inr (by omega)⟩
theorem lsS_trans {a b c : Sb} (h : lsS a b = true) (k : lsS b c = true) : lsS a c = true := by
  simp only [lsS, Bool.or_eq_true, Bool.and_eq_true, beq_iff_eq, decide_eq_true_eq] at h k ⊢
  rcases h with h | ⟨h1, h2⟩ <;> rcases k with k | ⟨k1, k2⟩
  · exact Or.inl (ls_trans h k)
  · rw [← k1]; exact Or.inl h
  · rw [h1]; exact Or.inl k
  · exact Or.inr ⟨h1.trans k1, by omega⟩
theorem lsS_total {a b : Sb} (h : lsS a b = false) (hi : a.id ≠ b.id) : lsS b a = true := by
  simp only [lsS, Bool.or_eq_true, Bool.and_eq_true, beq_iff_eq, decide_eq_true_eq, Bool.or_eq_false_iff, Bool.and_eq_false_iff, decide_eq_false_iff_not] at h ⊢
  cases hb : ls b.f.toList a.f.toList with
  | true => exact Or.inl rfl
  | false =>
    have e := ls_total h.1 hb
    refine Or.inr ⟨e.symm, ?_⟩
    rcases h.2 with h2 | h2
    · rw [beq_eq_false_iff_ne] at h2; exact absurd e h2
    · omega
def cmpS (a b : Bs) : Int := if ls a b = true then -1 else if ls b a = true then 1 else 0
def cmpI (a b : Int) : Int := if a < b then -1 else if b < a then 1 else 0
def ordS (a b : Sb) : Int := if cmpS a.f.toList b.f.toList ≠ 0 then cmpS a.f.toList b.f.toList else cmpI a.id b.id
theorem ordS_lt (a b : Sb) : (ordS a b < 0) ↔ lsS a b = true := by
  unfold ordS cmpS cmpI lsS
  cases h1 : ls a.f.toList b.f.toList with
  | true => simp
  | false =>
    cases h2 : ls b.f.toList a.f.toList with
    | true =>
      have : ¬ a.f.toList = b.f.toList := by intro e; rw [e, ls_irrefl] at h2; cases h2
      simp [this]
    | false =>
      have e := ls_total h1 h2
      simp [e]
      split
      · simp; assumption
      · split <;> simp <;> omega

/-! a range around two -/
abbrev Rg := ByteArray × ByteArray
def mnS (f g : ByteArray) : ByteArray := if ls g.toList f.toList then g else f
def arnd (a b : Rg) : Rg := (mnS a.1 b.1, if a.2.toList = [] ∨ b.2.toList = [] then ⟨#[]⟩ else mF a.2 b.2)
theorem nil_list : (⟨#[]⟩ : ByteArray).toList = [] := by rw [ByteArray.toList_eq]
theorem lsT_le {a b c : Bs} (h : ls a b = true) (k : ls c b = false) : ls a c = true := by
  cases hac : ls a c with
  | true => rfl
  | false =>
    cases hca : ls c a with
    | true => rw [ls_trans hca h] at k; cases k
    | false => rw [ls_total hac hca] at h; rw [h] at k; cases k
theorem arnd_in1 {a b : Rg} {k : Bs} (h : inB a.1.toList a.2.toList k = true) : inB (arnd a b).1.toList (arnd a b).2.toList k = true := by
  simp only [inB, Bool.and_eq_true, Bool.not_eq_true', Bool.or_eq_true, beq_iff_eq] at h ⊢
  obtain ⟨h1, h2⟩ := h
  refine ⟨?_, ?_⟩
  · unfold arnd mnS
    dsimp only
    split
    · rename_i hm
      cases hk : ls k b.1.toList with
      | false => rfl
      | true => rw [ls_trans hk hm] at h1; cases h1
    · exact h1
  · unfold arnd
    dsimp only
    split
    · exact Or.inl nil_list
    · rename_i hn
      right
      unfold mF
      rcases h2 with h2 | h2
      · exact absurd (Or.inl h2) hn
      · split
        · rename_i hm; exact ls_trans h2 hm
        · exact h2
theorem arnd_in2 {a b : Rg} {k : Bs} (h : inB b.1.toList b.2.toList k = true) : inB (arnd a b).1.toList (arnd a b).2.toList k = true := by
  simp only [inB, Bool.and_eq_true, Bool.not_eq_true', Bool.or_eq_true, beq_iff_eq] at h ⊢
  obtain ⟨h1, h2⟩ := h
  refine ⟨?_, ?_⟩
  · unfold arnd mnS
    dsimp only
    split
    · exact h1
    · rename_i hm
      have hm : ls b.1.toList a.1.toList = false := by simpa using hm
      cases hk : ls k a.1.toList with
      | false => rfl
      | true => rw [lsT_le hk hm] at h1; cases h1
  · unfold arnd
    dsimp only
    split
    · exact Or.inl nil_list
    · rename_i hn
      right
      unfold mF
      rcases h2 with h2 | h2
      · exact absurd (Or.inr h2) hn
      · split
        · exact h2
        · rename_i hm
          have hm : ls a.2.toList b.2.toList = false := by simpa using hm
          exact lsT_le h2 hm

/-! trees -/
inductive Tr where
  | nil : Tr
  | node (b : Nat) (s : Sb) (l r : Tr) : Tr
def Tr.isNil : Tr → Bool
  | .nil => true
  | .node .. => false
def Tr.ptr : Tr → Option Addr
  | .nil => none
  | .node b _ _ _ => some ⟨b, 0, none⟩
def Tr.ht : Tr → Nat
  | .nil => 0
  | .node _ _ l r => 1 + max l.ht r.ht
def Tr.hull : Tr → Rg
  | .nil => (⟨#[]⟩, ⟨#[]⟩)
  | .node _ s l r =>
    let h1 := if l.isNil = true then (s.f, s.t) else arnd (s.f, s.t) l.hull
    if r.isNil = true then h1 else arnd h1 r.hull
def Tr.lst : Tr → List (Nat × Sb)
  | .nil => []
  | .node b s l r => l.lst ++ (b, s) :: r.lst
def Tr.blks (t : Tr) : List Nat := t.lst.map (·.1)
def Tr.subs (t : Tr) : List Sb := t.lst.map (·.2)
theorem Tr.ht_le : ∀ t : Tr, t.ht ≤ t.lst.length
  | .nil => Nat.le_refl _
  | .node b s l r => by
    have h1 := ht_le l
    have h2 := ht_le r
    simp only [Tr.ht, Tr.lst, List.length_append, List.length_cons]
    omega
theorem Tr.blks_node (b : Nat) (s : Sb) (l r : Tr) : (Tr.node b s l r).blks = l.blks ++ b :: r.blks := by simp [Tr.blks, Tr.lst]
theorem Tr.subs_node (b : Nat) (s : Sb) (l r : Tr) : (Tr.node b s l r).subs = l.subs ++ s :: r.subs := by simp [Tr.subs, Tr.lst]
theorem Tr.blks_nil : Tr.nil.blks = [] := rfl
theorem Tr.nil_of {t : Tr} (h : t.isNil = true) : t = .nil := by cases t <;> simp [Tr.isNil] at h; rfl
theorem Tr.node_of {t : Tr} (h : t.isNil = false) : ∃ b s l r, t = .node b s l r := by
  cases t with
  | nil => simp [Tr.isNil] at h
  | node b s l r => exact ⟨b, s, l, r, rfl⟩
theorem Tr.ht_pos {t : Tr} (h : 0 < t.ht) : ∃ b s l r, t = .node b s l r := by
  cases t with
  | nil => simp [Tr.ht] at h
  | node b s l r => exact ⟨b, s, l, r, rfl⟩
/-- the hull has what the watches' ranges have -/
theorem Tr.hull_has : ∀ (t : Tr) (k : Bs), ∀ s ∈ t.subs, inB s.f.toList s.t.toList k = true → inB t.hull.1.toList t.hull.2.toList k = true
  | .nil, k => by simp [Tr.subs, Tr.lst]
  | .node b x l r, k => by
    intro s hs hk
    rw [Tr.subs_node] at hs
    have ihl := hull_has l k
    have ihr := hull_has r k
    have e : (Tr.node b x l r).hull = (if r.isNil = true then (if l.isNil = true then (x.f, x.t) else arnd (x.f, x.t) l.hull) else arnd (if l.isNil = true then (x.f, x.t) else arnd (x.f, x.t) l.hull) r.hull) := rfl
    rw [e]
    have key : (s ∈ l.subs ∨ s = x) → inB (if l.isNil = true then (x.f, x.t) else arnd (x.f, x.t) l.hull).1.toList (if l.isNil = true then (x.f, x.t) else arnd (x.f, x.t) l.hull).2.toList k = true := by
      intro h
      rcases h with h | rfl
      · cases hn : l.isNil with
        | true => rw [Tr.nil_of hn] at h; simp [Tr.subs, Tr.lst] at h
        | false => rw [if_neg (by simp)]; exact arnd_in2 (ihl s h hk)
      · cases hn : l.isNil with
        | true => rw [if_pos rfl]; exact hk
        | false => rw [if_neg (by simp)]; exact arnd_in1 hk
    rcases List.mem_append.1 hs with h | h
    · cases hn : r.isNil with
      | true => rw [if_pos rfl]; exact key (Or.inl h)
      | false => rw [if_neg (by simp)]; exact arnd_in1 (key (Or.inl h))
    · rcases List.mem_cons.1 h with h | h
      · cases hn : r.isNil with
        | true => rw [if_pos rfl]; exact key (Or.inr h)
        | false => rw [if_neg (by simp)]; exact arnd_in1 (key (Or.inr h))
      · cases hn : r.isNil with
        | true => rw [Tr.nil_of hn] at h; simp [Tr.subs, Tr.lst] at h
        | false => rw [if_neg (by simp)]; exact arnd_in2 (ihr s h hk)

/-! what the program does -/
def Tr.left : Tr → Tr
  | .nil => .nil
  | .node _ _ l _ => l
def Tr.right : Tr → Tr
  | .nil => .nil
  | .node _ _ _ r => r
/-- l's root over b, s and r -/
def lift0 (b : Nat) (s : Sb) (l r : Tr) : Tr := match l with
  | .nil => .nil
  | .node lb ls ll lr => .node lb ls ll (.node b s lr r)
def lift1 (b : Nat) (s : Sb) (l r : Tr) : Tr := match r with
  | .nil => .nil
  | .node rb rs rl rr => .node rb rs (.node b s l rl) rr
/-- a root, lifted to one of its sides if that one is higher -/
def turn1 : Tr → Tr
  | .nil => .nil
  | .node b s l r => if l.ht < r.ht then lift1 b s l r else .node b s l r
def turn0 : Tr → Tr
  | .nil => .nil
  | .node b s l r => if r.ht < l.ht then lift0 b s l r else .node b s l r
def balT (b : Nat) (s : Sb) (l r : Tr) : Tr :=
  if r.ht + 1 < l.ht then lift0 b s (turn1 l) r else if l.ht + 1 < r.ht then lift1 b s l (turn0 r) else .node b s l r
theorem lift0_lst {b : Nat} {s : Sb} {l r : Tr} (h : l.isNil = false) : (lift0 b s l r).lst = l.lst ++ (b, s) :: r.lst := by
  obtain ⟨lb, ls, ll, lr, rfl⟩ := Tr.node_of h
  simp [lift0, Tr.lst]
theorem lift1_lst {b : Nat} {s : Sb} {l r : Tr} (h : r.isNil = false) : (lift1 b s l r).lst = l.lst ++ (b, s) :: r.lst := by
  obtain ⟨lb, ls, ll, lr, rfl⟩ := Tr.node_of h
  simp [lift1, Tr.lst]
theorem turn1_lst (t : Tr) : (turn1 t).lst = t.lst := by
  cases t with
  | nil => rfl
  | node b s l r =>
    show (if l.ht < r.ht then lift1 b s l r else .node b s l r).lst = _
    split
    · rename_i h
      obtain ⟨x, y, p, q, rfl⟩ := Tr.ht_pos (t := r) (by omega)
      rw [lift1_lst rfl]; rfl
    · rfl
theorem turn0_lst (t : Tr) : (turn0 t).lst = t.lst := by
  cases t with
  | nil => rfl
  | node b s l r =>
    show (if r.ht < l.ht then lift0 b s l r else .node b s l r).lst = _
    split
    · rename_i h
      obtain ⟨x, y, p, q, rfl⟩ := Tr.ht_pos (t := l) (by omega)
      rw [lift0_lst rfl]; rfl
    · rfl
theorem notnil_of_lst {t : Tr} (h : 0 < t.lst.length) : t.isNil = false := by cases t <;> simp [Tr.lst, Tr.isNil] at h ⊢
theorem balT_lst (b : Nat) (s : Sb) (l r : Tr) : (balT b s l r).lst = l.lst ++ (b, s) :: r.lst := by
  unfold balT
  split
  · rename_i h
    have h1 := Tr.ht_le l
    rw [lift0_lst (notnil_of_lst (by rw [turn1_lst]; omega)), turn1_lst]
  · split
    · rename_i h
      have h1 := Tr.ht_le r
      rw [lift1_lst (notnil_of_lst (by rw [turn0_lst]; omega)), turn0_lst]
    · rfl
theorem balT_blks (b : Nat) (s : Sb) (l r : Tr) : (balT b s l r).blks = l.blks ++ b :: r.blks := by simp [Tr.blks, balT_lst]
def addT (nb : Nat) (n : Sb) : Tr → Tr
  | .nil => balT nb n .nil .nil
  | .node b s l r => if lsS n s = true then balT b s (addT nb n l) r else balT b s l (addT nb n r)
/-- the first watch of a tree, and the tree without it -/
def firT : Tr → Nat × Sb × Tr
  | .nil => (0, ⟨0, 0, ⟨#[]⟩, ⟨#[]⟩⟩, .nil)
  | .node b s l r => if l.isNil = true then (b, s, r) else ((firT l).1, (firT l).2.1, balT b s (firT l).2.2 r)
def joiT (l r : Tr) : Tr := if r.isNil = true then l else balT (firT r).1 (firT r).2.1 l (firT r).2.2
def droT (nb : Nat) (n : Sb) : Tr → Tr
  | .nil => .nil
  | .node b s l r => if b = nb then joiT l r else if lsS n s = true then balT b s (droT nb n l) r else balT b s l (droT nb n r)
theorem firT_lst : ∀ {t : Tr}, t.isNil = false → t.lst = ((firT t).1, (firT t).2.1) :: (firT t).2.2.lst
  | .nil, h => by simp [Tr.isNil] at h
  | .node b s l r, _ => by
    unfold firT
    cases hl : l.isNil with
    | true => rw [if_pos rfl, Tr.nil_of hl]; rfl
    | false =>
      rw [if_neg (by simp)]
      have ih := firT_lst hl
      simp only [Tr.lst]
      rw [balT_lst, ih]
      rfl
theorem joiT_lst (l r : Tr) : (joiT l r).lst = l.lst ++ r.lst := by
  unfold joiT
  cases hr : r.isNil with
  | true => rw [if_pos rfl, Tr.nil_of hr]; simp [Tr.lst]
  | false => rw [if_neg (by simp), balT_lst, firT_lst hr]

/-! sorted rows -/
def SrtL (L : List Sb) : Prop := L.Pairwise (fun a b => lsS a b = true)
def insL (x : Sb) : List Sb → List Sb
  | [] => [x]
  | y :: r => if lsS x y = true then x :: y :: r else y :: insL x r
def insP (x : Nat × Sb) : List (Nat × Sb) → List (Nat × Sb)
  | [] => [x]
  | y :: r => if lsS x.2 y.2 = true then x :: y :: r else y :: insP x r
theorem insP_map (x : Nat × Sb) : ∀ l : List (Nat × Sb), (insP x l).map (·.2) = insL x.2 (l.map (·.2))
  | [] => rfl
  | y :: r => by
    simp only [insP, List.map_cons, insL]
    split
    · rfl
    · rw [List.map_cons, insP_map x r]
theorem insP_mem (x : Nat × Sb) : ∀ (l : List (Nat × Sb)) (z : Nat × Sb), z ∈ insP x l ↔ z = x ∨ z ∈ l
  | [], z => by simp [insP]
  | y :: r, z => by
    have ih := insP_mem x r z
    unfold insP
    split
    · simp
    · simp only [List.mem_cons, ih]
      constructor
      · rintro (h | h | h)
        · exact Or.inr (Or.inl h)
        · exact Or.inl h
        · exact Or.inr (Or.inr h)
      · rintro (h | h | h)
        · exact Or.inr (Or.inl h)
        · exact Or.inl h
        · exact Or.inr (Or.inr h)
theorem insL_mem (x : Sb) : ∀ (l : List Sb) (z : Sb), z ∈ insL x l ↔ z = x ∨ z ∈ l
  | [], z => by simp [insL]
  | y :: r, z => by
    have ih := insL_mem x r z
    unfold insL
    split
    · simp
    · simp only [List.mem_cons, ih]
      constructor
      · rintro (h | h | h)
        · exact Or.inr (Or.inl h)
        · exact Or.inl h
        · exact Or.inr (Or.inr h)
      · rintro (h | h | h)
        · exact Or.inr (Or.inl h)
        · exact Or.inl h
        · exact Or.inr (Or.inr h)
theorem insL_perm (x : Sb) : ∀ l : List Sb, (insL x l).Perm (x :: l)
  | [] => List.Perm.refl _
  | y :: r => by
    unfold insL
    split
    · exact List.Perm.refl _
    · exact ((insL_perm x r).cons y).trans (List.Perm.swap x y r)
theorem insP_perm (x : Nat × Sb) : ∀ l : List (Nat × Sb), (insP x l).Perm (x :: l)
  | [] => List.Perm.refl _
  | y :: r => by
    unfold insP
    split
    · exact List.Perm.refl _
    · exact ((insP_perm x r).cons y).trans (List.Perm.swap x y r)
theorem insL_srt {x : Sb} : ∀ {l : List Sb}, SrtL l → (∀ y ∈ l, y.id ≠ x.id) → SrtL (insL x l)
  | [], _, _ => by simp [insL, SrtL]
  | y :: r, h, hi => by
    obtain ⟨h1, h2⟩ := List.pairwise_cons.1 h
    unfold insL
    split
    · rename_i hx
      refine List.pairwise_cons.2 ⟨fun z hz => ?_, h⟩
      rcases List.mem_cons.1 hz with rfl | hz
      · exact hx
      · exact lsS_trans hx (h1 z hz)
    · rename_i hx
      refine List.pairwise_cons.2 ⟨fun z hz => ?_, insL_srt h2 fun z hz => hi z (List.mem_cons_of_mem _ hz)⟩
      rcases (insL_mem x r z).1 hz with rfl | hz
      · exact lsS_total (by simpa using hx) (fun e => hi y List.mem_cons_self e.symm)
      · exact h1 z hz
theorem insP_lt {x y : Nat × Sb} {r : List (Nat × Sb)} (h : lsS x.2 y.2 = true) : ∀ l : List (Nat × Sb), insP x (l ++ y :: r) = insP x l ++ y :: r
  | [] => by simp [insP, h]
  | z :: l => by
    have ih := insP_lt (r := r) h l
    simp only [List.cons_append, insP, ih]
    split <;> simp
theorem insP_ge {x y : Nat × Sb} {r : List (Nat × Sb)} (h : lsS x.2 y.2 = false) : ∀ l : List (Nat × Sb), (∀ z ∈ l, lsS z.2 y.2 = true) → insP x (l ++ y :: r) = l ++ y :: insP x r
  | [], _ => by simp [insP, h]
  | z :: l, hl => by
    have ih := insP_ge (r := r) h l fun u hu => hl u (List.mem_cons_of_mem _ hu)
    have hz : lsS x.2 z.2 = false := by
      cases hx : lsS x.2 z.2 with
      | false => rfl
      | true => rw [lsS_trans hx (hl z List.mem_cons_self)] at h; cases h
    simp only [List.cons_append, insP, hz, ih]
    simp
def SrtP (L : List (Nat × Sb)) : Prop := L.Pairwise (fun a b => lsS a.2 b.2 = true)
theorem SrtP.parts {l r : List (Nat × Sb)} {y : Nat × Sb} (h : SrtP (l ++ y :: r)) : SrtP l ∧ SrtP r ∧ (∀ z ∈ l, lsS z.2 y.2 = true) ∧ (∀ z ∈ r, lsS y.2 z.2 = true) := by
  obtain ⟨h1, h2, h3⟩ := List.pairwise_append.1 h
  obtain ⟨h4, h5⟩ := List.pairwise_cons.1 h2
  exact ⟨h1, h5, fun z hz => h3 z hz y List.mem_cons_self, h4⟩
theorem addT_lst (nb : Nat) (n : Sb) : ∀ t : Tr, SrtP t.lst → (addT nb n t).lst = insP (nb, n) t.lst
  | .nil, _ => by simp [addT, balT_lst, insP, Tr.lst]
  | .node b s l r, h => by
    obtain ⟨h1, h2, h3, h4⟩ := SrtP.parts h
    unfold addT
    simp only [Tr.lst]
    split
    · rename_i hx
      rw [balT_lst, addT_lst nb n l h1, insP_lt hx]
    · rename_i hx
      rw [balT_lst, addT_lst nb n r h2, insP_ge (by simpa using hx) _ h3]
theorem droT_lst (nb : Nat) (n : Sb) : ∀ t : Tr, SrtP t.lst → t.blks.Nodup → (nb, n) ∈ t.lst → (droT nb n t).lst = t.lst.filter (fun x => !(x.1 == nb))
  | .nil, _, _, hm => by simp [Tr.lst] at hm
  | .node b s l r, h, hd, hm => by
    obtain ⟨h1, h2, h3, h4⟩ := SrtP.parts h
    rw [Tr.blks_node] at hd
    obtain ⟨d1, d2, d3⟩ := List.nodup_append.1 hd
    obtain ⟨d4, d5⟩ := List.nodup_cons.1 d2
    have hmem : ∀ {t : Tr} {x : Nat × Sb}, x ∈ t.lst → x.1 ∈ t.blks := fun hx => List.mem_map_of_mem hx
    have keep : ∀ {t : Tr}, (∀ k ∈ t.blks, k ≠ nb) → t.lst.filter (fun x => !(x.1 == nb)) = t.lst := fun hk =>
      List.filter_eq_self.2 fun x hx => by simpa using hk x.1 (hmem hx)
    unfold droT
    simp only [Tr.lst, List.filter_append, List.filter_cons]
    by_cases hb : b = nb
    · subst hb
      rw [if_pos rfl, joiT_lst, keep fun k hk e => d3 k hk b List.mem_cons_self e, keep (t := r) fun k hk e => d4 (e ▸ hk)]
      simp
    · have hbq : (!(b == nb)) = true := by simpa using hb
      rw [if_neg hb]
      simp only [hbq, if_true]
      split
      · rename_i hx
        have hml : (nb, n) ∈ l.lst := by
          rcases List.mem_append.1 hm with hm | hm
          · exact hm
          · rcases List.mem_cons.1 hm with hm | hm
            · cases hm; exact absurd rfl hb
            · have := h4 _ hm; rw [lsS_asymm this] at hx; cases hx
        rw [balT_lst, droT_lst nb n l h1 d1 hml, keep (t := r) fun k hk e => by subst e; exact d3 k (hmem hml) k (List.mem_cons_of_mem _ hk) rfl]
      · rename_i hx
        have hmr : (nb, n) ∈ r.lst := by
          rcases List.mem_append.1 hm with hm | hm
          · exact absurd (h3 _ hm) hx
          · rcases List.mem_cons.1 hm with hm | hm
            · cases hm; exact absurd rfl hb
            · exact hm
        rw [balT_lst, droT_lst nb n r h2 d5 hmr, keep (t := l) fun k hk e => by subst e; exact d3 k hk k (List.mem_cons_of_mem _ (hmem hmr)) rfl]
/-- the numbers of a tree's watches that want a key's event, as the program gathers them -/
def Tr.stab (k : Bs) (rev : Int) : Tr → List Int
  | .nil => []
  | .node b s l r => if inB (Tr.node b s l r).hull.1.toList (Tr.node b s l r).hull.2.toList k = true then l.stab k rev ++ (if s.want k rev = true then [s.id] else []) ++ r.stab k rev else []
theorem Tr.stab_eq (k : Bs) (rev : Int) : ∀ t : Tr, t.stab k rev = (t.subs.filter (Sb.want k rev)).map (·.id)
  | .nil => rfl
  | .node b s l r => by
    have ihl := stab_eq k rev l
    have ihr := stab_eq k rev r
    have hh := Tr.hull_has (.node b s l r) k
    unfold Tr.stab
    split
    · rw [ihl, ihr, Tr.subs_node, List.filter_append, List.map_append, List.filter_cons, List.append_assoc]
      congr 1
      split <;> simp
    · rename_i hn
      have : ((Tr.node b s l r).subs.filter (Sb.want k rev)) = [] := List.filter_eq_nil_iff.2 fun x hx hw => by
        unfold Sb.want at hw
        simp only [Bool.and_eq_true] at hw
        exact hn (hh x hx hw.2)
      rw [this]; rfl
end Go.Proofs.Ytcieokfjkfpajaa
