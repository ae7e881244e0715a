/- GENERIC: STRINGS COMPARED, AS LISTS OF BYTES: an order that is whole; what the walk shall know of each comparison -/
import Derived.Test.YtmhiolhgofackaaLies
namespace Go.Proofs.Ytmhiolhgofackaa
open Go.RowKit
set_option linter.unusedVariables false
set_option linter.unusedSimpArgs false

/-! the order -/
abbrev Bs := List UInt8
def ls (a b : Bs) : Bool := Op.bytesLess a b
theorem ls_nil (a : Bs) : ls a [] = false := by cases a <;> rfl
theorem nil_ls (a : UInt8) (l : Bs) : ls [] (a :: l) = true := rfl
theorem ls_cons (a b : UInt8) (x y : Bs) : ls (a :: x) (b :: y) = (decide (a < b) || (a == b && ls x y)) := rfl
theorem ls_irrefl : ∀ a : Bs, ls a a = false
  | [] => rfl
  | a :: x => by rw [ls_cons, ls_irrefl x]; simp
theorem ls_asymm : ∀ {a b : Bs}, ls a b = true → ls b a = false
  | a, [], h => by rw [ls_nil] at h; cases h
  | [], b :: y, _ => ls_nil _
  | a :: x, b :: y, h => by
    rw [ls_cons] at h ⊢
    simp only [Bool.or_eq_true, decide_eq_true_eq, Bool.and_eq_true, beq_iff_eq, Bool.or_eq_false_iff, decide_eq_false_iff_not, Bool.and_eq_false_iff] at h ⊢
    rcases h with h | ⟨rfl, h⟩
    · refine ⟨by rw [UInt8.lt_iff_toNat_lt] at h ⊢; omega, Or.inl ?_⟩
      rw [beq_eq_false_iff_ne]
      rintro rfl
      rw [UInt8.lt_iff_toNat_lt] at h; omega
    · exact ⟨by rw [UInt8.lt_iff_toNat_lt]; omega, Or.inr (ls_asymm h)⟩
theorem ls_trans : ∀ {a b c : Bs}, ls a b = true → ls b c = true → ls a c = true
  | a, b, [], _, h => by rw [ls_nil] at h; cases h
  | [], b, c :: z, _, _ => rfl
  | a :: x, [], c :: z, h, _ => by rw [ls_nil] at h; cases h
  | a :: x, b :: y, c :: z, h, k => by
    rw [ls_cons] at h k ⊢
    simp only [Bool.or_eq_true, decide_eq_true_eq, Bool.and_eq_true, beq_iff_eq] at h k ⊢
    rcases h with h | ⟨rfl, h⟩ <;> rcases k with k | ⟨rfl, k⟩
    · left; rw [UInt8.lt_iff_toNat_lt] at h k ⊢; omega
    · exact Or.inl h
    · exact Or.inl k
    · exact Or.inr ⟨rfl, ls_trans h k⟩
theorem ls_total : ∀ {a b : Bs}, ls a b = false → ls b a = false → a = b
  | [], [], _, _ => rfl
  | [], b :: y, h, _ => by cases h
  | a :: x, [], _, h => by cases h
  | a :: x, b :: y, h, k => by
    rw [ls_cons] at h k
    simp only [Bool.or_eq_false_iff, decide_eq_false_iff_not, Bool.and_eq_false_iff, beq_eq_false_iff_ne] at h k
    have hab : a = b := by
      apply UInt8.toNat_inj.1
      have h1 := h.1
      have k1 := k.1
      rw [UInt8.lt_iff_toNat_lt] at h1 k1
      omega
    subst hab
    have e : x = y := ls_total (by rcases h.2 with h | h; exact absurd rfl h; exact h) (by rcases k.2 with h | h; exact absurd rfl h; exact h)
    rw [e]
theorem run_lss {P : Program} {t : TypeId} (x y : ByteArray) (w : World) : (binOp .lss t (.string x) (.string y)).run P w = .ok (.bool (Op.bytesLess x.toList y.toList)) w := by
  simp [binOp, Op.stringOp]
theorem run_leq {P : Program} {t : TypeId} (x y : ByteArray) (w : World) : (binOp .leq t (.string x) (.string y)).run P w = .ok (.bool (Op.bytesLess x.toList y.toList || x.toList == y.toList)) w := by
  simp [binOp, Op.stringOp]
theorem run_gtr {P : Program} {t : TypeId} (x y : ByteArray) (w : World) : (binOp .gtr t (.string x) (.string y)).run P w = .ok (.bool (!(Op.bytesLess x.toList y.toList || x.toList == y.toList))) w := by
  simp [binOp, Op.stringOp]
theorem run_gtr' {P : Program} {t : TypeId} (x y : ByteArray) (w : World) : (binOp .gtr t (.string x) (.string y)).run P w = .ok (.bool (Op.bytesLess y.toList x.toList)) w := by
  rw [run_gtr]
  have h : (!(Op.bytesLess x.toList y.toList || x.toList == y.toList)) = Op.bytesLess y.toList x.toList := by
    cases hxy : ls x.toList y.toList with
    | true => have := ls_asymm hxy; unfold ls at hxy this; rw [hxy, this]; rfl
    | false =>
      cases hyx : ls y.toList x.toList with
      | true =>
        have hne : (x.toList == y.toList) = false := by rw [beq_eq_false_iff_ne]; intro e; rw [e, ls_irrefl] at hyx; cases hyx
        unfold ls at hxy hyx; rw [hxy, hyx, hne]; rfl
      | false => 
        have e := ls_total hxy hyx
        unfold ls at hxy hyx; rw [hxy, hyx, e]; simp
  rw [h]
theorem run_geq {P : Program} {t : TypeId} (x y : ByteArray) (w : World) : (binOp .geq t (.string x) (.string y)).run P w = .ok (.bool (!(Op.bytesLess x.toList y.toList))) w := by
  simp [binOp, Op.stringOp]

/-- lt, or not: what is not below is above or the same -/
theorem ls_le_trans {a b c : Bs} (h : ls b a = false) (k : ls b c = true) : ls a c = true := by
  cases hab : ls a b with
  | true => exact ls_trans hab k
  | false => rw [ls_total hab h]; exact k
theorem ls_trans_le {a b c : Bs} (h : ls a b = true) (k : ls c b = false) : ls a c = true := by
  cases hbc : ls b c with
  | true => exact ls_trans h hbc
  | false => rw [← ls_total hbc k]; exact h
theorem le_trans' {a b c : Bs} (h : ls b a = false) (k : ls c b = false) : ls c a = false := by
  cases hca : ls c a with
  | false => rfl
  | true => 
    have := ls_trans_le hca h
    rw [this] at k; cases k

/-- a byte 0 behind: the next one -/
theorem ls_next : ∀ (a k : Bs), ls a (k ++ [0]) = (ls a k || a == k)
  | [], [] => rfl
  | [], b :: y => by simp [ls, Op.bytesLess]
  | a :: x, [] => by
    simp only [List.nil_append, ls_cons, ls_nil, Bool.and_false, Bool.or_false, Bool.false_or]
    have : ¬ a < 0 := by rw [UInt8.lt_iff_toNat_lt]; simp
    simp [this, ls_nil]
  | a :: x, b :: y => by
    rw [List.cons_append, ls_cons, ls_cons, ls_next x y]
    by_cases h : a = b
    · subst h; simp
    · have h1 : (a == b) = false := by simpa using h
      simp [h1, h]

/-! a string's bytes -/
theorem bs_len (s : ByteArray) : s.toList.length = s.size := by rw [ByteArray.toList_eq]; simp
theorem bs_inj {s t : ByteArray} (h : s.toList = t.toList) : s = t := by
  rw [ByteArray.toList_eq, ByteArray.toList_eq] at h
  cases s; cases t; simp at h; rw [h]
theorem bs_app (s t : ByteArray) : (s ++ t).toList = s.toList ++ t.toList := by
  rw [ByteArray.toList_eq, ByteArray.toList_eq, ByteArray.toList_eq]; simp
theorem bs_get (s : ByteArray) (i : Nat) (h : i < s.size) : s.toList[i]? = some s[i] := by
  rw [ByteArray.toList_eq, Array.getElem?_toList, Array.getElem?_eq_getElem (by simpa using h)]; rfl
theorem bs_nil (s : ByteArray) : s.toList = [] ↔ s.size = 0 := by
  rw [← bs_len, List.length_eq_zero_iff]
theorem bs_take (s : ByteArray) (n : Nat) : (s.extract 0 n).toList = s.toList.take n := by
  rw [ByteArray.toList_eq, ByteArray.toList_eq]; simp
theorem bs_last {s : ByteArray} {n : Nat} (h : s.size = n + 1) : s.toList = (s.extract 0 n).toList ++ [s[n]'(by omega)] := by
  rw [bs_take]
  have h1 : s.toList.length = n + 1 := by rw [bs_len, h]
  have h2 := bs_get s n (by omega)
  have h3 : s.toList = s.toList.take n ++ s.toList.drop n := (List.take_append_drop n s.toList).symm
  have h4 : s.toList.drop n = [s[n]'(by omega)] := by
    rw [List.drop_eq_getElem_cons (by omega)]
    have : s.toList[n]'(by omega) = s[n]'(by omega) := by
      rw [List.getElem?_eq_getElem (by omega)] at h2; exact Option.some.inj h2
    rw [this, List.drop_eq_nil_of_le (by omega)]
  rw [h4] at h3; exact h3

/-! the plain answers of the document -/
def mayB (k : Bs) : Bool := decide (1 ≤ k.length ∧ k.length ≤ 8)
def emptyB (f t : Bs) : Bool := !(t == []) && (ls t f || t == f)
def inB (f t k : Bs) : Bool := !(ls k f) && (t == [] || ls k t)
def mayRangeB (f t : Bs) : Bool := !(emptyB f t) && decide (f.length ≤ 8) && (decide (t.length ≤ 8) || (decide (t.length = 9) && t.getD 8 1 == 0))
/-- the prefix's end, from its last byte on -/
def upR : Bs → Bs
  | [] => []
  | b :: r => if b = 255 then upR r else (b + 1) :: r
def prefB (p : Bs) : Bs := (upR p.reverse).reverse
def meetF (f g : Bs) : Bs := if ls f g then g else f
def meetT (t u : Bs) : Bs := if t == [] || (!(u == []) && ls u t) then u else t

theorem emptyB_in (f t : Bs) : emptyB f t = !(inB f t f) := by
  unfold emptyB inB
  rw [ls_irrefl]
  cases ht : (t == []) with
  | true => simp
  | false =>
    simp only [Bool.not_false, Bool.true_and, Bool.false_or]
    cases h1 : ls t f with
    | true => rw [ls_asymm h1]; rfl
    | false =>
      cases h2 : ls f t with
      | true => 
        simp only [Bool.false_or, Bool.not_true]
        rw [beq_eq_false_iff_ne]; rintro rfl; rw [ls_irrefl] at h2; cases h2
      | false => rw [ls_total h1 h2]; simp
theorem empty_in {f t k : Bs} (h : emptyB f t = true) : inB f t k = false := by
  unfold emptyB at h
  unfold inB
  simp only [Bool.and_eq_true, Bool.not_eq_true', Bool.or_eq_true, beq_iff_eq] at h
  rw [h.1, Bool.false_or]
  cases hk : ls k t with
  | false => simp
  | true =>
    have : ls k f = true := by
      rcases h.2 with h2 | rfl
      · exact ls_trans hk h2
      · exact hk
    rw [this]; rfl
theorem one_in (k o : Bs) : inB k (k ++ [0]) o = (o == k) := by
  unfold inB
  have hne : ((k ++ [0]) == ([] : Bs)) = false := by simp
  rw [hne, Bool.false_or, ls_next]
  cases h : ls o k with
  | true =>
    have : (o == k) = false := by rw [beq_eq_false_iff_ne]; rintro rfl; rw [ls_irrefl] at h; cases h
    rw [this]; rfl
  | false => simp
theorem one_empty (k : Bs) : emptyB k (k ++ [0]) = false := by rw [emptyB_in, one_in]; simp
theorem one_may {k : Bs} (h : mayB k = true) : mayRangeB k (k ++ [0]) = true := by
  unfold mayRangeB
  have hk := of_decide_eq_true h
  rw [one_empty]
  simp only [Bool.not_false, Bool.true_and, Bool.and_eq_true, decide_eq_true_eq, Bool.or_eq_true]
  refine ⟨hk.2, ?_⟩
  simp only [List.length_append, List.length_cons, List.length_nil]
  by_cases h8 : k.length = 8
  · right
    refine ⟨by omega, ?_⟩
    rw [List.getD_eq_getElem?_getD, List.getElem?_append_right (by omega), h8]; simp
  · left; omega

theorem meetF_ls (f g k : Bs) : ls k (meetF f g) = (ls k f || ls k g) := by
  unfold meetF
  split
  · rename_i h
    cases h1 : ls k f with
    | true => rw [ls_trans h1 h]; rfl
    | false => rfl
  · rename_i h
    have h : ls f g = false := by simpa using h
    cases h1 : ls k g with
    | true => rw [ls_trans_le h1 h]; rfl
    | false => simp
def toB (t k : Bs) : Bool := t == [] || ls k t
theorem meetT_to (t u k : Bs) : toB (meetT t u) k = (toB t k && toB u k) := by
  unfold meetT toB
  cases ht : (t == []) with
  | true => simp
  | false =>
    cases hu : (u == []) with
    | true => simp [ht]
    | false =>
      cases hl : ls u t with
      | true =>
        simp only [Bool.not_false, Bool.true_and, Bool.false_or, if_true, hu]
        cases h1 : ls k u with
        | true => rw [ls_trans h1 hl]; rfl
        | false => simp
      | false =>
        simp only [Bool.not_false, Bool.true_and, Bool.false_or, Bool.false_eq_true, if_false, ht]
        cases h1 : ls k t with
        | true => rw [ls_trans_le h1 hl]; rfl
        | false => rfl
theorem meet_in (f t g u k : Bs) : inB (meetF f g) (meetT t u) k = (inB f t k && inB g u k) := by
  have h1 := meetF_ls f g k
  have h2 := meetT_to t u k
  unfold toB at h2
  unfold inB
  rw [h1, h2]
  cases ls k f <;> cases ls k g <;> simp
theorem meetF_comm (f g : Bs) : meetF f g = meetF g f := by
  unfold meetF
  cases h : ls f g with
  | true => rw [ls_asymm h]; rfl
  | false =>
    cases h2 : ls g f with
    | true => rfl
    | false => simp [ls_total h h2]
theorem meetT_comm (t u : Bs) : meetT t u = meetT u t := by
  unfold meetT
  cases ht : (t == []) <;> cases hu : (u == [])
  · cases h : ls u t with
    | true => rw [ls_asymm h]; simp
    | false =>
      cases h2 : ls t u with
      | true => simp
      | false => simp [ls_total h h2]
  · simp
  · simp
  · have h1 : t = [] := by simpa using ht
    have h2 : u = [] := by simpa using hu
    rw [h1, h2]
theorem meet_empty {f t g u k : Bs} (h : emptyB (meetF f g) (meetT t u) = true) : (inB f t k && inB g u k) = false := by
  rw [← meet_in]; exact empty_in h

/-! the same, of strings -/
def mF (f g : ByteArray) : ByteArray := if ls f.toList g.toList then g else f
def mT (t u : ByteArray) : ByteArray := if t.toList == [] || (!(u.toList == []) && ls u.toList t.toList) then u else t
theorem mF_list (f g : ByteArray) : (mF f g).toList = meetF f.toList g.toList := by unfold mF meetF; split <;> rfl
theorem mT_list (t u : ByteArray) : (mT t u).toList = meetT t.toList u.toList := by unfold mT meetT; split <;> rfl

theorem mF_comm (f g : ByteArray) : mF f g = mF g f := bs_inj (by rw [mF_list, mF_list, meetF_comm])
theorem mT_comm (t u : ByteArray) : mT t u = mT u t := bs_inj (by rw [mT_list, mT_list, meetT_comm])
/-- what Meet tells -/
def meetR (f t g u : ByteArray) : ByteArray × ByteArray × Bool := if emptyB (mF f g).toList (mT t u).toList then (⟨#[]⟩, ⟨#[]⟩, false) else (mF f g, mT t u, true)
theorem meetR_comm (f t g u : ByteArray) : meetR f t g u = meetR g u f t := by unfold meetR; rw [mF_comm, mT_comm]
theorem meetR_true {f t g u : ByteArray} (h : (meetR f t g u).2.2 = true) (k : Bs) : inB (meetR f t g u).1.toList (meetR f t g u).2.1.toList k = (inB f.toList t.toList k && inB g.toList u.toList k) := by
  unfold meetR at h ⊢
  split
  · rename_i h2; rw [if_pos h2] at h; cases h
  · show inB (mF f g).toList (mT t u).toList k = _
    rw [mF_list, mT_list, meet_in]
theorem meetR_false {f t g u : ByteArray} (h : (meetR f t g u).2.2 = false) (k : Bs) : (inB f.toList t.toList k && inB g.toList u.toList k) = false := by
  unfold meetR at h
  split at h
  · rename_i h2; rw [mF_list, mT_list] at h2; exact meet_empty h2
  · cases h
def prefS (p : ByteArray) : ByteArray := ⟨(prefB p.toList).toArray⟩
theorem prefS_list (p : ByteArray) : (prefS p).toList = prefB p.toList := by rw [ByteArray.toList_eq, prefS]
theorem prefS_of {p t : ByteArray} (h : t.toList = prefB p.toList) : t = prefS p := bs_inj (by rw [h, prefS_list])

/-! what begins so -/
def endB : Bs → Option Bs
  | [] => none
  | a :: r => match endB r with
    | some t => some (a :: t)
    | none => if a = 255 then none else some [a + 1]
def inE (p k : Bs) : Bool := !(ls k p) && (match endB p with | none => true | some t => ls k t)
theorem u8_lt (a b : UInt8) : a < b ↔ a.toNat < b.toNat := UInt8.lt_iff_toNat_lt
theorem u8_succ {a : UInt8} (h : a ≠ 255) : (a + 1).toNat = a.toNat + 1 := by
  have h1 : a.toNat ≠ 255 := fun e => h (UInt8.toNat_inj.1 (by rw [e]; rfl))
  have h2 : a.toNat < 256 := a.toNat_lt
  rw [UInt8.toNat_add]
  have : (1 : UInt8).toNat = 1 := rfl
  rw [this]
  omega
theorem inE_begins : ∀ (p k : Bs), inE p k = p.isPrefixOf k
  | [], k => by simp [inE, endB, ls_nil]
  | a :: r, [] => by simp [inE, nil_ls]
  | a :: r, c :: y => by
    have ih := inE_begins r y
    unfold inE at ih ⊢
    rw [List.isPrefixOf_cons_cons, ls_cons]
    have hcase : c = a ∨ c.toNat < a.toNat ∨ a.toNat < c.toNat := by
      by_cases h : c = a
      · exact Or.inl h
      · have : c.toNat ≠ a.toNat := fun e => h (UInt8.toNat_inj.1 e)
        right; omega
    cases he : endB r with
    | some t =>
      rw [he] at ih
      simp only [endB, he, ls_cons]
      rcases hcase with rfl | h | h
      · simpa using ih
      · have h1 : c < a := by rw [u8_lt]; exact h
        have h2 : (a == c) = false := by rw [beq_eq_false_iff_ne]; rintro rfl; omega
        simp [h1, h2]
      · have h1 : ¬ c < a := by rw [u8_lt]; omega
        have h2 : (a == c) = false := by rw [beq_eq_false_iff_ne]; rintro rfl; omega
        have h3 : (c == a) = false := by rw [beq_eq_false_iff_ne]; rintro rfl; omega
        simp [h1, h2, h3]
    | none =>
      rw [he] at ih
      simp only [Bool.and_true] at ih
      simp only [endB, he]
      by_cases ha : a = 255
      · subst ha
        rw [if_pos rfl]
        rcases hcase with rfl | h | h
        · simpa using ih
        · have h1 : c < 255 := by rw [u8_lt]; exact h
          have h2 : ((255 : UInt8) == c) = false := by rw [beq_eq_false_iff_ne]; rintro rfl; omega
          simp [h1, h2]
        · have := c.toNat_lt
          have e : (255 : UInt8).toNat = 255 := rfl
          omega
      · rw [if_neg ha]
        have hs := u8_succ ha
        simp only [ls_cons, ls_nil, Bool.and_false, Bool.or_false]
        rcases hcase with rfl | h | h
        · have h1 : c < c + 1 := by rw [u8_lt]; omega
          simpa [h1] using ih
        · have h1 : c < a := by rw [u8_lt]; exact h
          have h2 : (a == c) = false := by rw [beq_eq_false_iff_ne]; rintro rfl; omega
          simp [h1, h2]
        · have h1 : ¬ c < a + 1 := by rw [u8_lt]; omega
          have h2 : (a == c) = false := by rw [beq_eq_false_iff_ne]; rintro rfl; omega
          simp [h1, h2]
theorem upR_snoc (a : UInt8) : ∀ x : Bs, upR (x ++ [a]) = if upR x = [] then upR [a] else upR x ++ [a]
  | [] => by simp [upR]
  | b :: r => by
    have e1 : upR (b :: r) = if b = 255 then upR r else (b + 1) :: r := rfl
    have e2 : upR (b :: (r ++ [a])) = if b = 255 then upR (r ++ [a]) else (b + 1) :: (r ++ [a]) := rfl
    by_cases hb : b = 255
    · rw [if_pos hb] at e1 e2
      rw [List.cons_append, e2, upR_snoc a r, e1]
    · rw [if_neg hb] at e1 e2
      rw [List.cons_append, e2, e1]; simp
theorem prefB_end : ∀ p : Bs, prefB p = (endB p).getD [] ∧ ∀ t, endB p = some t → t ≠ []
  | [] => ⟨rfl, by intro t h; cases h⟩
  | a :: r => by
    obtain ⟨h1, h2⟩ := prefB_end r
    unfold prefB at h1 ⊢
    rw [List.reverse_cons, upR_snoc]
    cases he : endB r with
    | some t =>
      rw [he] at h1
      have ht := h2 t he
      have hne : upR r.reverse ≠ [] := by intro e; rw [e] at h1; exact ht h1.symm
      rw [if_neg hne]
      simp only [endB, he, List.reverse_append, List.reverse_cons, List.reverse_nil, List.nil_append, List.singleton_append, Option.getD_some]
      refine ⟨by rw [h1]; rfl, ?_⟩
      intro u hu; cases hu; simp
    | none =>
      rw [he] at h1
      have hnil : upR r.reverse = [] := by simpa using h1
      rw [if_pos hnil]
      simp only [endB, he, upR]
      split
      · exact ⟨rfl, by intro t h; cases h⟩
      · exact ⟨rfl, by intro t h; cases h; simp⟩
theorem pref_begins (p k : Bs) : inB p (prefB p) k = p.isPrefixOf k := by
  rw [← inE_begins]
  obtain ⟨h1, h2⟩ := prefB_end p
  unfold inB inE
  cases he : endB p with
  | none => rw [he] at h1; rw [h1]; simp
  | some t =>
    rw [he] at h1
    have ht := h2 t he
    have : (t == []) = false := by simpa using ht
    rw [h1]; simp [this]
theorem prefB_255 (x : Bs) : prefB (x ++ [255]) = prefB x := by unfold prefB; simp [upR]
theorem prefB_last (x : Bs) {b : UInt8} (h : b ≠ 255) : prefB (x ++ [b]) = x ++ [b + 1] := by unfold prefB; simp [upR, h]
theorem prefB_nil : prefB [] = [] := rfl
theorem pref_self (p k : Bs) : inB p (prefB p) (p ++ k) = true := by rw [pref_begins]; simp
theorem pref_empty (p : Bs) : emptyB p (prefB p) = false := by
  rw [emptyB_in, pref_begins]; simp
end Go.Proofs.Ytmhiolhgofackaa
