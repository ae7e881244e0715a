/- impostref15 (Do, Keys, Kept, Same), impostref14.In: contracts
impostref15.Do: contract
impostref15.Kept, Keys: contracts
PACKAGE bst: entries beside what a tree holds; keys, rising -/
import Derived.Test.YtmhiolhgofackaaRowG
import Derived.Test.YtmhiolhgofackaaBsDo
import Derived.BigQuiet
namespace Go.Proofs.Ytmhiolhgofackaa
open Go.RowKit
set_option linter.unusedVariables false
set_option linter.unusedSimpArgs false

structure Ent where
  k : ByteArray
  v : Int
def Ent.cells (x : Ent) : List Value := [.string x.k, .int .u64 x.v]
theorem Ent.clen (x : Ent) : x.cells.length = 2 := rfl
theorem Ent.cone (x : Ent) : ∀ y ∈ x.cells, y.oneCell' = true := by
  intro y hy
  simp only [Ent.cells, List.mem_cons, List.not_mem_nil, or_false] at hy
  rcases hy with rfl | rfl <;> rfl
def EntIn (w : World) (v : Value) (l : List Ent) : Prop := LIn Ent.cells 2 w v l
theorem EntIn.here {w : World} {v : Value} {l : List Ent} (h : EntIn w v l) (hn : 0 < l.length) : ∃ g off c, v = .slice (some ⟨g, off, none⟩) l.length c ∧ g < w.heap.size ∧ l.length ≤ c ∧ ∀ i x, l[i]? = some x → w.cell? ⟨g, off + i * 2, none⟩ = some (.string x.k) ∧ w.cell? ⟨g, off + i * 2 + 1, none⟩ = some (.int .u64 x.v) := by
  obtain ⟨g, off, c, hv, h1, h2, h3⟩ := LIn.here h hn
  refine ⟨g, off, c, hv, h1, h2, fun i x hx => ?_⟩
  have q := h3 i x hx
  have e0 := q 0 (by decide)
  have e1 := q 1 (by decide)
  rw [← Nat.add_assoc] at e0 e1
  exact ⟨e0, e1⟩
def stC (s : ByteArray) : List Value := [.string s]
theorem stC_one (x : ByteArray) : ∀ y ∈ stC x, y.oneCell' = true := by intro y hy; simp only [stC, List.mem_singleton] at hy; subst hy; rfl
def StIn (w : World) (v : Value) (l : List ByteArray) : Prop := LIn stC 1 w v l
theorem StIn.here {w : World} {v : Value} {l : List ByteArray} (h : StIn w v l) (hn : 0 < l.length) : ∃ g off c, v = .slice (some ⟨g, off, none⟩) l.length c ∧ g < w.heap.size ∧ l.length ≤ c ∧ ∀ i x, l[i]? = some x → w.cell? ⟨g, off + i, none⟩ = some (.string x) := by
  obtain ⟨g, off, c, hv, h1, h2, h3⟩ := LIn.here h hn
  refine ⟨g, off, c, hv, h1, h2, fun i x hx => ?_⟩
  have e0 := h3 i x hx 0 (by decide)
  rw [Nat.mul_one, Nat.add_zero] at e0
  exact e0
theorem ss_sliceb : Try.prog.underlying 77 = some (.slice 9) := Try.underlying77
theorem ss_infob : (Try.prog.info? 9).map (fun i => (i.zero, i.size, i.bytes)) = some (some (.string ⟨#[]⟩), 1, 16) := by kernel_rfl
theorem bs_beqb (x k : ByteArray) : (x.toList == k.toList) = decide (x = k) := by
  by_cases h : x = k
  · subst h; simp
  · rw [decide_eq_false h, beq_eq_false_iff_ne]
    exact fun e => h (bs_inj e)
theorem bs_bne (x k : ByteArray) : (x.toList != k.toList) = !decide (x = k) := by unfold bne; rw [bs_beqb]
/-! In -/
def inSb (s : List ByteArray) (k : ByteArray) : Bool := s.any fun x => decide (x = k)
theorem inSb_at {s : List ByteArray} {j : Nat} {k : ByteArray} (h : s[j]? = some k) : inSb s k = true := by
  unfold inSb
  rw [List.any_eq_true]
  exact ⟨k, List.mem_of_getElem? h, by simp⟩
theorem inSb_step {s : List ByteArray} {j : Nat} {x k : ByteArray} (h : s[j]? = some x) (hn : ¬ x = k) : inSb (s.drop (j + 1)) k = inSb (s.drop j) k := by
  obtain ⟨h1, rfl⟩ := List.getElem?_eq_some_iff.1 h
  conv => rhs; rw [List.drop_eq_getElem_cons h1]
  simp only [inSb, List.any_cons, decide_eq_false hn, Bool.false_or]
/-! Same -/
theorem drop_eq_step {a b : List ByteArray} {j : Nat} {x y : ByteArray} (hx : a[j]? = some x) (hy : b[j]? = some y) : (a.drop j = b.drop j) ↔ x = y ∧ a.drop (j + 1) = b.drop (j + 1) := by
  obtain ⟨h1, rfl⟩ := List.getElem?_eq_some_iff.1 hx
  obtain ⟨h2, rfl⟩ := List.getElem?_eq_some_iff.1 hy
  rw [List.drop_eq_getElem_cons h1, List.drop_eq_getElem_cons h2, List.cons.injEq]
end Go.Proofs.Ytmhiolhgofackaa
namespace Go.Proofs.Ytmhiolhgofackaa
open Go.RowKit
set_option linter.unusedVariables false
set_option linter.unusedSimpArgs false

def offE (k : ByteArray) (x : Ent) : Bool := !decide (x.k = k)
def isE (l : List Ent) (k : ByteArray) : Bool := l.any fun x => decide (x.k = k)
def wasE (k : ByteArray) : Int → List Ent → Int
  | u, [] => u
  | u, x :: r => wasE k (if x.k = k then x.v else u) r
def doE (l : List Ent) (kind : Int) (k : ByteArray) (v : Int) : List Ent × Bool × Int :=
  if kind = 1 then (if isE l k then (l, false, wasE k 0 l) else (l.filter (offE k) ++ [⟨k, v⟩], true, v))
  else if kind = 2 then (l.filter (offE k), isE l k, wasE k 0 l)
  else (l, isE l k, wasE k 0 l)
structure DoSt (l : List Ent) (k : ByteArray) (j : Nat) (o : List Ent) (is : Bool) (was : Int) : Prop where
  le : j ≤ l.length
  out : o ++ (l.drop j).filter (offE k) = l.filter (offE k)
  oln : o.length ≤ j
  ise : (is || isE (l.drop j) k) = isE l k
  wase : wasE k was (l.drop j) = wasE k 0 l
theorem DoSt.zero (l : List Ent) (k : ByteArray) : DoSt l k 0 [] false 0 := ⟨Nat.zero_le _, rfl, Nat.le_refl _, rfl, rfl⟩
theorem DoSt.hit {l : List Ent} {k : ByteArray} {j : Nat} {o : List Ent} {is : Bool} {was : Int} {x : Ent} (h : DoSt l k j o is was) (hx : l[j]? = some x) (hk : x.k = k) : DoSt l k (j + 1) o true x.v := by
  obtain ⟨h1, rfl⟩ := List.getElem?_eq_some_iff.1 hx
  obtain ⟨a, b, c, d, e⟩ := h
  rw [List.drop_eq_getElem_cons h1] at b d e
  refine ⟨h1, ?_, by omega, ?_, ?_⟩
  · rw [← b, List.filter_cons, if_neg (by unfold offE; simp [hk])]
  · rw [← d]; unfold isE; rw [List.any_cons, decide_eq_true hk]; cases is <;> rfl
  · rw [← e]; simp only [wasE, if_pos hk]
theorem DoSt.miss {l : List Ent} {k : ByteArray} {j : Nat} {o : List Ent} {is : Bool} {was : Int} {x : Ent} (h : DoSt l k j o is was) (hx : l[j]? = some x) (hk : ¬ x.k = k) : DoSt l k (j + 1) (o ++ [x]) is was := by
  obtain ⟨h1, rfl⟩ := List.getElem?_eq_some_iff.1 hx
  obtain ⟨a, b, c, d, e⟩ := h
  rw [List.drop_eq_getElem_cons h1] at b d e
  refine ⟨h1, ?_, by simp; omega, ?_, ?_⟩
  · rw [← b, List.filter_cons, if_pos (by unfold offE; simp [hk])]; simp
  · rw [← d]; unfold isE; rw [List.any_cons, decide_eq_false hk, Bool.false_or]
  · rw [← e]; simp only [wasE, if_neg hk]
theorem DoSt.done {l : List Ent} {k : ByteArray} {j : Nat} {o : List Ent} {is : Bool} {was : Int} (h : DoSt l k j o is was) (hj : ¬ j < l.length) : o = l.filter (offE k) ∧ is = isE l k ∧ was = wasE k 0 l := by
  obtain ⟨a, b, c, d, e⟩ := h
  rw [List.drop_of_length_le (by omega)] at b d e
  exact ⟨by simpa using b, by simpa [isE] using d, e⟩
def DoPostE (w : World) (lv : Value) (l : List Ent) (kind : Int) (k : ByteArray) (v : Int) (e : Ending) (w' : World) : Prop :=
  ∃ rv, e = .returned (.tuple #[rv, .bool (doE l kind k v).2.1, .int .u64 (doE l kind k v).2.2]) ∧ EntIn w' rv (doE l kind k v).1 ∧ Fr [] w w' ∧ (rv = lv ∨ ∀ k, rv.ownBlock = some k → w.heap.size ≤ k)
end Go.Proofs.Ytmhiolhgofackaa
namespace Go.Proofs.Ytmhiolhgofackaa
open Go.RowKit
set_option linter.unusedVariables false
set_option linter.unusedSimpArgs false

def lowP (s x : ByteArray) : Bool := Op.bytesLess x.toList s.toList
def atS (o : List ByteArray) (s : ByteArray) : Nat := (o.takeWhile (lowP s)).length
def insS (o : List ByteArray) (s : ByteArray) : List ByteArray := if o[atS o s]? = some s then o else o.take (atS o s) ++ [s] ++ o.drop (atS o s)
def keptL (l : List ByteArray) : List ByteArray := l.foldl insS []
theorem insS_len (o : List ByteArray) (s : ByteArray) : (insS o s).length ≤ o.length + 1 := by
  unfold insS; split
  · omega
  · simp; omega
/-- so far all are lower -/
structure LowA (o : List ByteArray) (s : ByteArray) (a : Nat) : Prop where
  le : a ≤ o.length
  eq : a + ((o.drop a).takeWhile (lowP s)).length = atS o s
theorem LowA.zero (o : List ByteArray) (s : ByteArray) : LowA o s 0 := ⟨Nat.zero_le _, by simp [atS]⟩
theorem LowA.step {o : List ByteArray} {s : ByteArray} {a : Nat} {x : ByteArray} (h : LowA o s a) (hx : o[a]? = some x) (hl : lowP s x = true) : LowA o s (a + 1) := by
  obtain ⟨h1, rfl⟩ := List.getElem?_eq_some_iff.1 hx
  have := h.eq
  rw [List.drop_eq_getElem_cons h1, List.takeWhile_cons, if_pos hl, List.length_cons] at this
  exact ⟨h1, by omega⟩
theorem LowA.stop {o : List ByteArray} {s : ByteArray} {a : Nat} (h : LowA o s a) (hl : ∀ x, o[a]? = some x → lowP s x = false) : a = atS o s := by
  have h2 := h.eq
  by_cases ha : a < o.length
  · have := hl _ (List.getElem?_eq_getElem ha)
    rw [List.drop_eq_getElem_cons ha, List.takeWhile_cons, if_neg (by rw [this]; simp)] at h2
    simpa using h2
  · rw [List.drop_of_length_le (by omega)] at h2
    simpa using h2
abbrev SAt (w : World) (v : Value) (l : List ByteArray) : Prop := LAt stC 9 1 w v l
def KeptPost (w : World) (l : List ByteArray) (e : Ending) (w' : World) : Prop := ∃ v, e = .returned v ∧ StIn w' v (keptL l) ∧ Fr [] w w'
def keysE (l : List Ent) : List ByteArray := keptL (l.map Ent.k)
end Go.Proofs.Ytmhiolhgofackaa
namespace Go.Proofs.Ytmhiolhgofackaa
open Go.RowKit
set_option linter.unusedVariables false
set_option linter.unusedSimpArgs false

/-! entries -/
structure EntH (l : List Ent) (x : Hold) : Prop where
  uniq : (l.map Ent.k).Nodup
  mem : ∀ k v, (⟨k, v⟩ : Ent) ∈ l ↔ x k = some v
theorem EntH.nil : EntH [] (fun _ => none) := ⟨List.nodup_nil, fun k v => by simp⟩
theorem isE_iff {l : List Ent} {k : ByteArray} : isE l k = true ↔ ∃ v, (⟨k, v⟩ : Ent) ∈ l := by
  unfold isE
  rw [List.any_eq_true]
  constructor
  · rintro ⟨⟨k', v⟩, h, e⟩
    have : k' = k := by simpa using e
    subst this; exact ⟨v, h⟩
  · rintro ⟨v, h⟩; exact ⟨_, h, by simp⟩
theorem wasE_none {k : ByteArray} : ∀ {l : List Ent} {u : Int}, isE l k = false → wasE k u l = u
  | [], u, _ => rfl
  | x :: r, u, h => by
    unfold isE at h
    rw [List.any_cons, Bool.or_eq_false_iff] at h
    have hx : ¬ x.k = k := by simpa using h.1
    show wasE k (if x.k = k then x.v else u) r = u
    rw [if_neg hx]
    exact wasE_none h.2
theorem wasE_some {k : ByteArray} {v : Int} : ∀ {l : List Ent} {u : Int}, (l.map Ent.k).Nodup → (⟨k, v⟩ : Ent) ∈ l → wasE k u l = v
  | x :: r, u, hn, h => by
    rw [List.map_cons, List.nodup_cons] at hn
    show wasE k (if x.k = k then x.v else u) r = v
    rcases List.mem_cons.1 h with rfl | h
    · rw [if_pos rfl]
      refine wasE_none ?_
      cases hi : isE r k
      · rfl
      · obtain ⟨v', hv⟩ := isE_iff.1 hi
        exact absurd (List.mem_map_of_mem (f := Ent.k) hv) hn.1
    · have hx : ¬ x.k = k := fun e => hn.1 (by rw [e]; exact List.mem_map_of_mem (f := Ent.k) h)
      rw [if_neg hx]
      exact wasE_some hn.2 h
theorem EntH.is_some {l : List Ent} {x : Hold} (h : EntH l x) {k : ByteArray} {u : Int} (hx : x k = some u) : isE l k = true ∧ wasE k 0 l = u := ⟨isE_iff.2 ⟨u, (h.mem k u).2 hx⟩, wasE_some h.uniq ((h.mem k u).2 hx)⟩
theorem EntH.is_none {l : List Ent} {x : Hold} (h : EntH l x) {k : ByteArray} (hx : x k = none) : isE l k = false ∧ wasE k 0 l = 0 := by
  have : isE l k = false := by
    cases hi : isE l k
    · rfl
    · obtain ⟨v, hv⟩ := isE_iff.1 hi
      rw [(h.mem k v).1 hv] at hx; cases hx
  exact ⟨this, wasE_none this⟩
theorem nodup_filter {l : List Ent} {p : Ent → Bool} (h : (l.map Ent.k).Nodup) : ((l.filter p).map Ent.k).Nodup := h.sublist ((List.filter_sublist).map _)
theorem EntH.off {l : List Ent} {x : Hold} (h : EntH l x) (k : ByteArray) : EntH (l.filter (offE k)) (x.put k none) := by
  refine ⟨nodup_filter h.uniq, fun k' v => ?_⟩
  rw [List.mem_filter, h.mem]
  unfold offE Hold.put
  by_cases hk : k' = k
  · rw [if_pos hk]; simp [hk]
  · rw [if_neg hk]; simp [hk]
theorem put_none {x : Hold} {k : ByteArray} (h : x k = none) : x.put k none = x := by
  funext k'; unfold Hold.put
  by_cases hk : k' = k
  · rw [if_pos hk, hk, h]
  · rw [if_neg hk]
theorem EntH.add {l : List Ent} {x : Hold} (h : EntH l x) {k : ByteArray} (v : Int) (hx : x k = none) : EntH (l.filter (offE k) ++ [⟨k, v⟩]) (x.put k (some v)) := by
  have hf := h.off k
  rw [put_none hx] at hf
  have hno : k ∉ (l.filter (offE k)).map Ent.k := fun hm => by
    obtain ⟨e, he, hk⟩ := List.mem_map.1 hm
    have := (List.mem_filter.1 he).2
    unfold offE at this
    simp [hk] at this
  refine ⟨?_, fun k' v' => ?_⟩
  · rw [List.map_append]
    refine List.nodup_append.2 ⟨hf.uniq, by simp, fun a ha b hb e => ?_⟩
    simp only [List.map_cons, List.map_nil, List.mem_singleton] at hb
    subst hb
    rw [e] at ha
    exact hno ha
  · rw [List.mem_append, hf.mem, List.mem_singleton]
    unfold Hold.put
    by_cases hk : k' = k
    · rw [if_pos hk]; subst hk; rw [hx]; simp; exact eq_comm
    · rw [if_neg hk]; simp [hk]
theorem EntH.step {l : List Ent} {x : Hold} (h : EntH l x) (kind : Int) (k : ByteArray) (v : Int) :
    EntH (doE l kind k v).1 (doX x kind k v).1 ∧ (doE l kind k v).2.1 = (doX x kind k v).2.ok ∧ (doE l kind k v).2.2 = (doX x kind k v).2.val ∧ (doX x kind k v).2.key = k ∧ (doX x kind k v).2.err = 0 ∧ (doE l kind k v).1.length ≤ l.length + 1 := by
  unfold doE doX
  have hfl : (l.filter (offE k)).length ≤ l.length := List.length_filter_le _ _
  by_cases k1 : kind = 1
  · rw [if_pos k1, if_pos k1]
    cases hx : x k with
    | none =>
      obtain ⟨h1, h2⟩ := h.is_none hx
      rw [if_neg (by rw [h1]; simp)]
      exact ⟨h.add v hx, rfl, rfl, rfl, rfl, by simp; omega⟩
    | some u =>
      obtain ⟨h1, h2⟩ := h.is_some hx
      rw [if_pos h1]
      exact ⟨h, rfl, h2, rfl, rfl, by simp⟩
  · rw [if_neg k1, if_neg k1]
    by_cases k2 : kind = 2
    · rw [if_pos k2, if_pos k2]
      cases hx : x k with
      | none =>
        obtain ⟨h1, h2⟩ := h.is_none hx
        refine ⟨?_, h1, h2, rfl, rfl, by simp; omega⟩
        have := h.off k
        rw [put_none hx] at this
        exact this
      | some u =>
        obtain ⟨h1, h2⟩ := h.is_some hx
        exact ⟨h.off k, h1, h2, rfl, rfl, by simp; omega⟩
    · rw [if_neg k2, if_neg k2]
      cases hx : x k with
      | none =>
        obtain ⟨h1, h2⟩ := h.is_none hx
        exact ⟨h, h1, h2, rfl, rfl, by simp⟩
      | some u =>
        obtain ⟨h1, h2⟩ := h.is_some hx
        exact ⟨h, h1, h2, rfl, rfl, by simp⟩
/-! keys, rising -/
def Rise (l : List ByteArray) : Prop := l.Pairwise fun a b => ls a.toList b.toList = true
theorem rise_unique : ∀ {l r : List ByteArray}, Rise l → Rise r → (∀ x, x ∈ l ↔ x ∈ r) → l = r
  | [], [], _, _, _ => rfl
  | [], b :: r, _, _, h => by have := (h b).2 (by simp); cases this
  | a :: l, [], _, _, h => by have := (h a).1 (by simp); cases this
  | a :: l, b :: r, hl, hr, h => by
    obtain ⟨l1, l2⟩ := List.pairwise_cons.1 hl
    obtain ⟨r1, r2⟩ := List.pairwise_cons.1 hr
    have hab : a = b := by
      rcases List.mem_cons.1 ((h a).1 (by simp)) with e | e
      · exact e
      · rcases List.mem_cons.1 ((h b).2 (by simp)) with e2 | e2
        · exact e2.symm
        · have h1 := r1 a e
          have h2 := l1 b e2
          rw [ls_asymm h1] at h2; cases h2
    subst hab
    have hirr : ∀ {m : List ByteArray}, (∀ x ∈ m, ls a.toList x.toList = true) → a ∉ m := fun hm e => by
      have := hm a e; rw [ls_irrefl] at this; cases this
    rw [rise_unique l2 r2 (fun x => ?_)]
    constructor
    · intro hx
      rcases List.mem_cons.1 ((h x).1 (List.mem_cons_of_mem _ hx)) with e | e
      · subst e; exact absurd hx (hirr l1)
      · exact e
    · intro hx
      rcases List.mem_cons.1 ((h x).2 (List.mem_cons_of_mem _ hx)) with e | e
      · subst e; exact absurd hx (hirr r1)
      · exact e
theorem mem_keysT {t : Tr} : ∀ {T : PT} {k : ByteArray}, k ∈ keysT t T ↔ ∃ q ∈ T.leaves, (t.nd q).fin = false ∧ (t.nd q).key = k
  | .leaf p, k => by
    unfold keysT
    cases hf : (t.nd p).fin
    · rw [if_neg Bool.false_ne_true, List.mem_singleton]
      exact ⟨fun e => ⟨p, by simp [PT.leaves], hf, e.symm⟩, fun ⟨q, hq, h1, h2⟩ => by simp [PT.leaves] at hq; subst hq; exact h2.symm⟩
    · rw [if_pos rfl]
      exact ⟨fun e => (by cases e), fun ⟨q, hq, h1, h2⟩ => by simp [PT.leaves] at hq; subst hq; rw [hf] at h1; cases h1⟩
  | .node p l r, k => by
    show k ∈ keysT t l ++ keysT t r ↔ _
    rw [List.mem_append, mem_keysT, mem_keysT]
    constructor
    · rintro (⟨q, hq, h⟩ | ⟨q, hq, h⟩)
      · exact ⟨q, List.mem_append_left _ hq, h⟩
      · exact ⟨q, List.mem_append_right _ hq, h⟩
    · rintro ⟨q, hq, h⟩
      rcases List.mem_append.1 hq with hq | hq
      · exact Or.inl ⟨q, hq, h⟩
      · exact Or.inr ⟨q, hq, h⟩
theorem rise_keysT {t : Tr} : ∀ {T : PT}, Ord t T → Rise (keysT t T)
  | .leaf p, _ => by
    unfold keysT; split
    · exact List.Pairwise.nil
    · exact List.pairwise_singleton _ _
  | .node p l r, ⟨h1, h2, h3, h4⟩ => by
    refine List.pairwise_append.2 ⟨rise_keysT h3, rise_keysT h4, fun a ha b hb => ?_⟩
    obtain ⟨q, hq, f1, rfl⟩ := mem_keysT.1 ha
    obtain ⟨q2, hq2, f2, rfl⟩ := mem_keysT.1 hb
    exact (left_of (h1 q hq) ((h2 q2 hq2).1 f2)).2
theorem Good.keys {t : Tr} {L : PT} {x : Hold} {n : Nat} (h : Good t L x n) : Rise (keysT t L) ∧ ∀ k, k ∈ keysT t L ↔ x k ≠ none := by
  refine ⟨rise_keysT h.ord.2.2.1, fun k => ?_⟩
  rw [mem_keysT, ← h.cont k]
  constructor
  · rintro ⟨q, hq, hf, rfl⟩
    rw [cont_own h.quiet h.ord (List.mem_append_left _ hq) hf]
    simp
  · intro hc
    obtain ⟨h1, h2⟩ := has_iff.1 (cont_of hc)
    exact ⟨_, look_leaf t k L, h1, h2⟩
/-- put where it belongs -/
def insR (s : ByteArray) : List ByteArray → List ByteArray
  | [] => [s]
  | x :: r => if lowP s x then x :: insR s r else if x = s then x :: r else s :: x :: r
theorem insS_eq (s : ByteArray) : ∀ o : List ByteArray, insS o s = insR s o
  | [] => rfl
  | x :: r => by
    have ih := insS_eq s r
    unfold insR
    by_cases hl : lowP s x = true
    · rw [if_pos hl, ← ih]
      have ha : atS (x :: r) s = atS r s + 1 := by unfold atS; rw [List.takeWhile_cons, if_pos hl, List.length_cons]
      unfold insS
      rw [ha, List.getElem?_cons_succ, List.take_succ_cons, List.drop_succ_cons]
      split <;> rfl
    · rw [if_neg hl]
      have ha : atS (x :: r) s = 0 := by unfold atS; rw [List.takeWhile_cons, if_neg hl]; rfl
      unfold insS
      rw [ha, List.getElem?_cons_zero]
      by_cases hx : x = s
      · rw [if_pos (by rw [hx]), if_pos hx]
      · rw [if_neg (by simpa using hx), if_neg hx]; rfl
theorem insR_mem (s : ByteArray) : ∀ (o : List ByteArray) (y : ByteArray), y ∈ insR s o ↔ y = s ∨ y ∈ o
  | [], y => by simp [insR]
  | x :: r, y => by
    unfold insR
    split
    · rw [List.mem_cons, insR_mem s r y, List.mem_cons]; exact or_left_comm
    · split
      · rename_i h; subst h; rw [List.mem_cons]; exact ⟨Or.inr, fun h => h.elim Or.inl id⟩
      · rw [List.mem_cons]
theorem insR_rise (s : ByteArray) : ∀ {o : List ByteArray}, Rise o → Rise (insR s o)
  | [], _ => List.pairwise_singleton _ _
  | x :: r, h => by
    obtain ⟨h1, h2⟩ := List.pairwise_cons.1 h
    unfold insR
    split
    · rename_i hl
      refine List.pairwise_cons.2 ⟨fun y hy => ?_, insR_rise s h2⟩
      rcases (insR_mem s r y).1 hy with rfl | hy
      · exact hl
      · exact h1 y hy
    · rename_i hl
      split
      · exact h
      · rename_i hx
        have hsx : ls s.toList x.toList = true := by
          cases hh : ls s.toList x.toList
          · exact absurd (bs_inj (ls_total (by simpa [lowP, ls] using hl) hh)) hx
          · rfl
        refine List.pairwise_cons.2 ⟨fun y hy => ?_, h⟩
        rcases List.mem_cons.1 hy with rfl | hy
        · exact hsx
        · exact ls_trans hsx (h1 y hy)
theorem foldl_kept : ∀ (l o : List ByteArray), Rise o → Rise (l.foldl insS o) ∧ ∀ y, y ∈ l.foldl insS o ↔ y ∈ o ∨ y ∈ l
  | [], o, h => ⟨h, fun y => by simp⟩
  | s :: l, o, h => by
    rw [List.foldl_cons, insS_eq]
    obtain ⟨h1, h2⟩ := foldl_kept l (insR s o) (insR_rise s h)
    refine ⟨h1, fun y => ?_⟩
    rw [h2, insR_mem, List.mem_cons]
    constructor
    · rintro ((h | h) | h)
      · exact Or.inr (Or.inl h)
      · exact Or.inl h
      · exact Or.inr (Or.inr h)
    · rintro (h | h | h)
      · exact Or.inl (Or.inr h)
      · exact Or.inl (Or.inl h)
      · exact Or.inr h
/-- the keys, told both ways -/
theorem keys_same {t : Tr} {L : PT} {x : Hold} {n : Nat} {l : List Ent} (h : Good t L x n) (he : EntH l x) : keysT t L = keysE l := by
  obtain ⟨h1, h2⟩ := h.keys
  obtain ⟨h3, h4⟩ := foldl_kept (l.map Ent.k) [] List.Pairwise.nil
  refine rise_unique h1 h3 (fun k => ?_)
  rw [h2]
  show _ ↔ k ∈ (l.map Ent.k).foldl insS []
  rw [h4]
  simp only [List.not_mem_nil, false_or]
  constructor
  · intro hk
    cases hx : x k with
    | none => exact absurd hx hk
    | some v => exact List.mem_map.2 ⟨⟨k, v⟩, (he.mem k v).2 hx, rfl⟩
  · intro hk
    obtain ⟨⟨k', v⟩, hm, hkk⟩ := List.mem_map.1 hk
    have hkk' : k' = k := hkk
    subst hkk'
    rw [(he.mem k' v).1 hm]; simp
end Go.Proofs.Ytmhiolhgofackaa
