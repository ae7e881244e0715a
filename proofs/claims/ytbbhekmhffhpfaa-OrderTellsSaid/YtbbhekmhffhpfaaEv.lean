/- EVENTS AND MAPS, PLAINLY: what the document says of them (folding, restricting, each key's last one, rows of one revision), and its laws. No memory here. -/
import Derived.Test.YtbbhekmhffhpfaaBytes
namespace Go.Proofs.Ytbbhekmhffhpfaa
open Go.RowKit
set_option linter.unusedVariables false
set_option linter.unusedSimpArgs false

structure Ev where
  rev : Int
  key : ByteArray
  val : ByteArray
  del : Bool
  wf : key.size ≤ maxLen ∧ val.size ≤ maxLen
structure Kv where
  key : ByteArray
  val : ByteArray
  rev : Int
  wf : key.size ≤ maxLen ∧ val.size ≤ maxLen
def Ev.kv (e : Ev) : Kv := ⟨e.key, e.val, e.rev, e.wf⟩

/-- a key is lower -/
def kl (a b : ByteArray) : Bool := ls a.toList b.toList
theorem kl_irrefl (a : ByteArray) : kl a a = false := ls_irrefl _
theorem kl_asymm {a b : ByteArray} (h : kl a b = true) : kl b a = false := ls_asymm h
theorem kl_trans {a b c : ByteArray} (h : kl a b = true) (k : kl b c = true) : kl a c = true := ls_trans h k
theorem kl_total {a b : ByteArray} (h : kl a b = false) (k : kl b a = false) : a = b := bs_inj (ls_total h k)
theorem kl_ne {a b : ByteArray} (h : kl a b = true) : a ≠ b := by rintro rfl; rw [kl_irrefl] at h; cases h
theorem kl_le_trans {a b c : ByteArray} (h : kl b a = false) (k : kl b c = true) : kl a c = true := ls_le_trans h k
theorem kl_trans_le {a b c : ByteArray} (h : kl a b = true) (k : kl c b = false) : kl a c = true := ls_trans_le h k
def inR (f t k : ByteArray) : Bool := inB f.toList t.toList k.toList

/-! keys that rise -/
section
variable {α : Type} {key : α → ByteArray}
def Srt (key : α → ByteArray) (l : List α) : Prop := l.Pairwise (fun a b => kl (key a) (key b) = true)
theorem Srt.nil : Srt key [] := List.Pairwise.nil
theorem srt_filter {l : List α} (h : Srt key l) (p : α → Bool) : Srt key (l.filter p) := List.Pairwise.filter p h
theorem srt_ext : ∀ {a b : List α}, Srt key a → Srt key b → (∀ x, x ∈ a ↔ x ∈ b) → a = b
  | [], [], _, _, _ => rfl
  | [], y :: ys, _, _, h => by have := (h y).2 (by simp); cases this
  | x :: xs, [], _, _, h => by have := (h x).1 (by simp); cases this
  | x :: xs, y :: ys, ha, hb, h => by
    obtain ⟨ha1, ha2⟩ := List.pairwise_cons.1 ha
    obtain ⟨hb1, hb2⟩ := List.pairwise_cons.1 hb
    have hxy : x = y := by
      rcases List.mem_cons.1 ((h x).1 (by simp)) with e | e
      · exact e
      · rcases List.mem_cons.1 ((h y).2 (by simp)) with e2 | e2
        · exact e2.symm
        · have h1 := hb1 x e
          have h2 := kl_asymm (ha1 y e2)
          rw [h1] at h2; cases h2
    subst hxy
    have : xs = ys := srt_ext ha2 hb2 (fun z => by
      constructor
      · intro hz
        rcases List.mem_cons.1 ((h z).1 (List.mem_cons_of_mem _ hz)) with e | e
        · subst e; have := ha1 _ hz; rw [kl_irrefl] at this; cases this
        · exact e
      · intro hz
        rcases List.mem_cons.1 ((h z).2 (List.mem_cons_of_mem _ hz)) with e | e
        · subst e; have := hb1 _ hz; rw [kl_irrefl] at this; cases this
        · exact e)
    rw [this]
/-- of one key there is one -/
theorem srt_one : ∀ {l : List α}, Srt key l → ∀ x ∈ l, ∀ y ∈ l, key x = key y → x = y
  | [], _, x, hx, _, _, _ => by cases hx
  | a :: r, h, x, hx, y, hy, e => by
    obtain ⟨h1, h2⟩ := List.pairwise_cons.1 h
    rcases List.mem_cons.1 hx with ex | hx
    · rcases List.mem_cons.1 hy with ey | hy
      · rw [ex, ey]
      · have := h1 y hy; rw [← ex, e, kl_irrefl] at this; cases this
    · rcases List.mem_cons.1 hy with ey | hy
      · have := h1 x hx; rw [← ey, e, kl_irrefl] at this; cases this
      · exact srt_one h2 x hx y hy e
theorem mem_split (p : α → Bool) (l : List α) (x : α) : x ∈ l ↔ x ∈ l.takeWhile p ∨ x ∈ l.dropWhile p := by
  rw [← List.mem_append, List.takeWhile_append_dropWhile]
theorem mem_takeWhile_p {p : α → Bool} : ∀ {l : List α} {x : α}, x ∈ l.takeWhile p → p x = true
  | [], x, h => by cases h
  | a :: r, x, h => by
    rw [List.takeWhile_cons] at h
    split at h
    · rename_i hp
      rcases List.mem_cons.1 h with rfl | h
      · exact hp
      · exact mem_takeWhile_p h
    · cases h
/-- a key's place: what is below it, and what isn't -/
def lowB (key : α → ByteArray) (k : ByteArray) (l : List α) : List α := l.takeWhile (fun x => kl (key x) k)
def highB (key : α → ByteArray) (k : ByteArray) (l : List α) : List α := l.dropWhile (fun x => kl (key x) k)
theorem low_high (k : ByteArray) (l : List α) : lowB key k l ++ highB key k l = l := List.takeWhile_append_dropWhile
theorem high_not {k : ByteArray} : ∀ {l : List α}, Srt key l → ∀ x ∈ highB key k l, kl (key x) k = false
  | [], _, x, hx => by cases hx
  | a :: r, h, x, hx => by
    obtain ⟨h1, h2⟩ := List.pairwise_cons.1 h
    unfold highB at hx
    rw [List.dropWhile_cons] at hx
    split at hx
    · exact high_not h2 x hx
    · rename_i hp
      have hp : kl (key a) k = false := by simpa using hp
      rcases List.mem_cons.1 hx with rfl | hx
      · exact hp
      · cases hc : kl (key x) k with
        | false => rfl
        | true => have := kl_trans (h1 x hx) hc; rw [this] at hp; cases hp
/-- what is put at its place, what was of its key being struck -/
theorem srt_put {k : ByteArray} {l mid : List α} (h : Srt key l) (hm : Srt key mid) (hk : ∀ x ∈ mid, key x = k) (p : α → Bool) (hp : ∀ x, p x = true → key x ≠ k) :
    Srt key (lowB key k l ++ (mid ++ (highB key k l).filter p)) := by
  have hl : Srt key (lowB key k l) := List.Pairwise.sublist (List.takeWhile_sublist _) h
  have hh : Srt key ((highB key k l).filter p) := srt_filter (List.Pairwise.sublist (List.dropWhile_sublist _) h) p
  have low : ∀ x ∈ lowB key k l, kl (key x) k = true := fun x hx => mem_takeWhile_p (p := fun x => kl (key x) k) hx
  have high : ∀ x ∈ (highB key k l).filter p, kl k (key x) = true := by
    intro x hx
    obtain ⟨h1, h2⟩ := List.mem_filter.1 hx
    have h3 := high_not h x h1
    cases hc : kl k (key x) with
    | true => rfl
    | false => exact absurd (kl_total h3 hc) (hp x h2)
  refine List.pairwise_append.2 ⟨hl, List.pairwise_append.2 ⟨hm, hh, ?_⟩, ?_⟩
  · intro x hx y hy; rw [hk x hx]; exact high y hy
  · intro x hx y hy
    rcases List.mem_append.1 hy with hy | hy
    · rw [hk y hy]; exact low x hx
    · exact kl_trans (low x hx) (high y hy)
end

/-! one event -/
def Ev.put (e : Ev) : List Kv := if e.del then [] else [e.kv]
def oneK (m : List Kv) (e : Ev) : List Kv := lowB Kv.key e.key m ++ (e.put ++ (highB Kv.key e.key m).filter (fun x => !decide (x.key = e.key)))
theorem mem_put (e : Ev) (x : Kv) : x ∈ e.put ↔ e.del = false ∧ x = e.kv := by
  unfold Ev.put; cases e.del <;> simp
theorem mem_oneK (m : List Kv) (e : Ev) (x : Kv) : x ∈ oneK m e ↔ (x ∈ m ∧ x.key ≠ e.key) ∨ (e.del = false ∧ x = e.kv) := by
  unfold oneK
  rw [List.mem_append, List.mem_append, mem_put, List.mem_filter]
  have hs := mem_split (fun x : Kv => kl x.key e.key) m x
  constructor
  · rintro (h | h | h)
    · exact Or.inl ⟨hs.2 (Or.inl h), kl_ne (mem_takeWhile_p (p := fun x : Kv => kl x.key e.key) h)⟩
    · exact Or.inr h
    · exact Or.inl ⟨hs.2 (Or.inr h.1), by simpa using h.2⟩
  · rintro (⟨h, hn⟩ | h)
    · rcases hs.1 h with h | h
      · exact Or.inl h
      · exact Or.inr (Or.inr ⟨h, by simpa using hn⟩)
    · exact Or.inr (Or.inl h)
theorem srt_oneK {m : List Kv} (h : Srt Kv.key m) (e : Ev) : Srt Kv.key (oneK m e) := by
  refine srt_put h ?_ ?_ _ ?_
  · unfold Ev.put; split
    · exact Srt.nil
    · exact List.pairwise_singleton _ _
  · intro x hx; rw [((mem_put e x).1 hx).2]; rfl
  · intro x hx; simpa using hx
theorem oneK_len (m : List Kv) (e : Ev) : (oneK m e).length ≤ m.length + 1 := by
  unfold oneK
  have h1 := congrArg List.length (low_high (key := Kv.key) e.key m)
  have h2 := List.length_filter_le (fun x : Kv => !decide (x.key = e.key)) (highB Kv.key e.key m)
  have h3 : e.put.length ≤ 1 := by unfold Ev.put; split <;> simp
  simp only [List.length_append] at h1 ⊢
  omega

/-! events in turn -/
def foldK (m : List Kv) (l : List Ev) : List Kv := l.foldl oneK m
theorem foldK_nil (m : List Kv) : foldK m [] = m := rfl
theorem foldK_cons (m : List Kv) (e : Ev) (r : List Ev) : foldK m (e :: r) = foldK (oneK m e) r := rfl
theorem foldK_app (m : List Kv) (l k : List Ev) : foldK m (l ++ k) = foldK (foldK m l) k := by unfold foldK; rw [List.foldl_append]
theorem srt_foldK : ∀ {l : List Ev} {m : List Kv}, Srt Kv.key m → Srt Kv.key (foldK m l)
  | [], _, h => h
  | e :: r, _, h => srt_foldK (l := r) (srt_oneK h e)
theorem foldK_len : ∀ (l : List Ev) (m : List Kv), (foldK m l).length ≤ m.length + l.length
  | [], m => by simp [foldK]
  | e :: r, m => by
    have h1 := foldK_len r (oneK m e)
    have h2 := oneK_len m e
    rw [foldK_cons]; simp only [List.length_cons]; omega
/-- a key's last event -/
def lastOf (k : ByteArray) : List Ev → Option Ev
  | [] => none
  | e :: r => match lastOf k r with
    | some x => some x
    | none => if e.key = k then some e else none
theorem lastOf_cons (k : ByteArray) (e : Ev) (r : List Ev) : lastOf k (e :: r) = match lastOf k r with | some x => some x | none => if e.key = k then some e else none := rfl
theorem lastOf_some {k : ByteArray} : ∀ {l : List Ev} {x : Ev}, lastOf k l = some x → x ∈ l ∧ x.key = k
  | [], x, h => by cases h
  | e :: r, x, h => by
    unfold lastOf at h
    split at h
    · rename_i y hy
      cases h
      have := lastOf_some hy
      exact ⟨List.mem_cons_of_mem _ this.1, this.2⟩
    · split at h
      · rename_i hk; cases h; exact ⟨by simp, hk⟩
      · cases h
theorem lastOf_none {k : ByteArray} : ∀ {l : List Ev}, lastOf k l = none ↔ ∀ x ∈ l, x.key ≠ k
  | [] => by simp [lastOf]
  | e :: r => by
    have ih := lastOf_none (k := k) (l := r)
    unfold lastOf
    cases hr : lastOf k r with
    | some y =>
      have := lastOf_some hr
      simp only [reduceCtorEq, false_iff]
      intro h
      exact h y (List.mem_cons_of_mem _ this.1) this.2
    | none =>
      have h1 := ih.1 hr
      by_cases he : e.key = k
      · simp only [he, if_true, reduceCtorEq, false_iff]
        intro h; exact h e (by simp) he
      · simp only [he, if_false, true_iff]
        intro x hx
        rcases List.mem_cons.1 hx with rfl | hx
        · exact he
        · exact h1 x hx
theorem mem_foldK : ∀ (l : List Ev) (m : List Kv) (x : Kv), x ∈ foldK m l ↔ match lastOf x.key l with | none => x ∈ m | some e => e.del = false ∧ x = e.kv
  | [], m, x => by simp [foldK, lastOf]
  | e :: r, m, x => by
    rw [foldK_cons, mem_foldK r, lastOf_cons]
    cases hr : lastOf x.key r with
    | some y => rfl
    | none =>
      simp only
      rw [mem_oneK]
      by_cases he : e.key = x.key
      · simp only [he, if_true, ne_eq, not_true_eq_false, and_false, false_or]
      · simp only [he, if_false]
        constructor
        · rintro (h | ⟨_, rfl⟩)
          · exact h.1
          · exact absurd rfl he
        · intro h; exact Or.inl ⟨h, fun e => he e.symm⟩
theorem lastOf_srt {s : List Ev} (h : Srt Ev.key s) (x : Ev) : lastOf x.key s = some x ↔ x ∈ s := by
  constructor
  · intro hx; exact (lastOf_some hx).1
  · intro hx
    cases hl : lastOf x.key s with
    | none => exact absurd rfl (lastOf_none.1 hl x hx)
    | some y =>
      obtain ⟨h1, h2⟩ := lastOf_some hl
      rw [srt_one h y h1 x hx h2]
/-- two lists whose keys' last events are the same make the same -/
theorem foldK_same {m : List Kv} (hm : Srt Kv.key m) {l k : List Ev} (h : ∀ x, lastOf x l = lastOf x k) : foldK m l = foldK m k := by
  refine srt_ext (key := Kv.key) (srt_foldK hm) (srt_foldK hm) (fun x => ?_)
  rw [mem_foldK, mem_foldK, h]

/-! each key's last event -/
def insE (e : Ev) (out : List Ev) : List Ev := lowB Ev.key e.key out ++ (e :: highB Ev.key e.key out)
def lastGo : List Ev → List Ev → List Ev
  | out, [] => out
  | out, e :: r => if r.any (fun x => decide (x.key = e.key)) then lastGo out r else lastGo (insE e out) r
def lastE (l : List Ev) : List Ev := lastGo [] l
theorem mem_insE (e : Ev) (out : List Ev) (x : Ev) : x ∈ insE e out ↔ x = e ∨ x ∈ out := by
  unfold insE
  have hs := mem_split (fun x : Ev => kl x.key e.key) out x
  rw [List.mem_append, List.mem_cons, hs]
  unfold lowB highB
  constructor
  · rintro (h | h | h)
    · exact Or.inr (Or.inl h)
    · exact Or.inl h
    · exact Or.inr (Or.inr h)
  · rintro (h | h | h)
    · exact Or.inr (Or.inl h)
    · exact Or.inl h
    · exact Or.inr (Or.inr h)
theorem srt_insE {e : Ev} {out : List Ev} (h : Srt Ev.key out) (hn : ∀ x ∈ out, x.key ≠ e.key) : Srt Ev.key (insE e out) := by
  have h1 := srt_put (key := Ev.key) (k := e.key) (mid := [e]) h (List.pairwise_singleton _ _) (by simp) (fun x => !decide (x.key = e.key)) (by intro x hx; simpa using hx)
  have h2 : (highB Ev.key e.key out).filter (fun x => !decide (x.key = e.key)) = highB Ev.key e.key out := by
    rw [List.filter_eq_self]
    intro x hx
    have : x ∈ out := (mem_split (fun x : Ev => kl x.key e.key) out x).2 (Or.inr hx)
    simpa using hn x this
  rw [h2] at h1
  exact h1
theorem any_key {r : List Ev} {k : ByteArray} : r.any (fun x => decide (x.key = k)) = (lastOf k r).isSome := by
  cases h : lastOf k r with
  | none =>
    have := lastOf_none.1 h
    simp only [Option.isSome_none, List.any_eq_false, decide_eq_true_eq]
    exact this
  | some x =>
    obtain ⟨h1, h2⟩ := lastOf_some h
    simp only [Option.isSome_some, List.any_eq_true, decide_eq_true_eq]
    exact ⟨x, h1, h2⟩
theorem lastGo_spec : ∀ (l out : List Ev), Srt Ev.key out → (∀ x ∈ out, ∀ y ∈ l, x.key ≠ y.key) → Srt Ev.key (lastGo out l) ∧ ∀ x, x ∈ lastGo out l ↔ (x ∈ out ∨ lastOf x.key l = some x)
  | [], out, h, _ => ⟨h, fun x => by simp [lastGo, lastOf]⟩
  | e :: r, out, h, hn => by
    unfold lastGo
    rw [any_key]
    cases hl : lastOf e.key r with
    | some y =>
      obtain ⟨g1, g2⟩ := lastGo_spec r out h (fun x hx z hz => hn x hx z (List.mem_cons_of_mem _ hz))
      refine ⟨g1, fun x => ?_⟩
      simp only [Option.isSome_some, if_true]
      rw [g2 x]
      have : lastOf x.key (e :: r) = lastOf x.key r := by
        rw [lastOf]
        cases hx : lastOf x.key r with
        | some z => rfl
        | none =>
          simp only
          split
          · rename_i hk; rw [hk, hx] at hl; cases hl
          · rfl
      rw [this]
    | none =>
      have hnone := lastOf_none.1 hl
      obtain ⟨g1, g2⟩ := lastGo_spec r (insE e out) (srt_insE h (fun x hx => hn x hx e (by simp))) (by
        intro x hx z hz
        rcases (mem_insE e out x).1 hx with rfl | hx
        · exact fun e => hnone z hz e.symm
        · exact hn x hx z (List.mem_cons_of_mem _ hz))
      refine ⟨g1, fun x => ?_⟩
      simp only [Option.isSome_none, Bool.false_eq_true, if_false]
      rw [g2 x, mem_insE]
      have hle : lastOf x.key (e :: r) = match lastOf x.key r with | some z => some z | none => if e.key = x.key then some e else none := rfl
      rw [hle]
      cases hx : lastOf x.key r with
      | some z =>
        simp only
        constructor
        · rintro ((rfl | h) | h)
          · rw [hx] at hl; cases hl
          · exact Or.inl h
          · exact Or.inr h
        · rintro (h | h)
          · exact Or.inl (Or.inr h)
          · exact Or.inr h
      | none =>
        simp only [reduceCtorEq, or_false]
        by_cases hk : e.key = x.key
        · simp only [hk, if_true, Option.some.injEq]
          constructor
          · rintro (rfl | h)
            · exact Or.inr rfl
            · exact Or.inl h
          · rintro (h | rfl)
            · exact Or.inr h
            · exact Or.inl rfl
        · simp only [hk, if_false, reduceCtorEq, or_false]
          constructor
          · rintro (rfl | h)
            · exact absurd rfl hk
            · exact h
          · intro h; exact Or.inr h
theorem srt_lastE (l : List Ev) : Srt Ev.key (lastE l) := (lastGo_spec l [] Srt.nil (by simp)).1
theorem mem_lastE (l : List Ev) (x : Ev) : x ∈ lastE l ↔ lastOf x.key l = some x := by
  rw [lastE, (lastGo_spec l [] Srt.nil (by simp)).2]; simp
/-- whatever rises, and has just the last ones, is it -/
theorem lastE_of {l s : List Ev} (hs : Srt Ev.key s) (hm : ∀ x, x ∈ s ↔ lastOf x.key l = some x) : s = lastE l :=
  srt_ext (key := Ev.key) hs (srt_lastE l) (fun x => by rw [hm, mem_lastE])
theorem lastOf_lastE (l : List Ev) (k : ByteArray) : lastOf k (lastE l) = lastOf k l := by
  cases h : lastOf k l with
  | none =>
    refine lastOf_none.2 (fun x hx e => ?_)
    have := (mem_lastE l x).1 hx
    rw [e, h] at this; cases this
  | some x =>
    obtain ⟨h1, rfl⟩ := lastOf_some h
    exact (lastOf_srt (srt_lastE l) x).2 ((mem_lastE l x).2 h)
theorem fold_last {m : List Kv} (hm : Srt Kv.key m) (l : List Ev) : foldK m (lastE l) = foldK m l := foldK_same hm (lastOf_lastE l)
theorem last_last (l : List Ev) : lastE (lastE l) = lastE l := (lastE_of (srt_lastE l) (fun x => (lastOf_srt (srt_lastE l) x).symm)).symm
theorem lastGo_len : ∀ (l out : List Ev), (lastGo out l).length ≤ out.length + l.length
  | [], out => by simp [lastGo]
  | e :: r, out => by
    unfold lastGo
    split
    · have := lastGo_len r out; simp only [List.length_cons]; omega
    · have := lastGo_len r (insE e out)
      have h2 : (insE e out).length = out.length + 1 := by
        have := congrArg List.length (low_high (key := Ev.key) e.key out)
        unfold insE
        simp only [List.length_append, List.length_cons] at this ⊢
        omega
      simp only [List.length_cons]; omega
theorem lastE_len (l : List Ev) : (lastE l).length ≤ l.length := by have := lastGo_len l []; simpa [lastE] using this

/-! ranges -/
def filterE (f t : ByteArray) (l : List Ev) : List Ev := l.filter (fun e => inR f t e.key)
def restrictK (f t : ByteArray) (m : List Kv) : List Kv := m.filter (fun x => inR f t x.key)
theorem lastOf_filter (f t k : ByteArray) : ∀ l : List Ev, lastOf k (filterE f t l) = if inR f t k then lastOf k l else none
  | [] => by simp [filterE, lastOf]
  | e :: r => by
    have ih := lastOf_filter f t k r
    unfold filterE at ih ⊢
    rw [List.filter_cons]
    by_cases he : e.key = k
    · subst he
      cases hi : inR f t e.key with
      | true =>
        rw [hi] at ih
        simp only [if_true] at ih ⊢
        simp only [lastOf, ih]
      | false =>
        rw [hi] at ih
        simp only [Bool.false_eq_true, if_false] at ih ⊢
        exact ih
    · split
      · simp only [lastOf, ih, he, if_false]
        cases inR f t k with
        | true => rfl
        | false => rfl
      · rw [ih]
        simp only [lastOf, he, if_false]
        cases lastOf k r <;> rfl
theorem restrict_fold {m : List Kv} (hm : Srt Kv.key m) (l : List Ev) (f t : ByteArray) : restrictK f t (foldK m l) = foldK (restrictK f t m) (filterE f t l) := by
  refine srt_ext (key := Kv.key) (srt_filter (srt_foldK hm) _) (srt_foldK (srt_filter hm _)) (fun x => ?_)
  rw [mem_foldK, lastOf_filter]
  unfold restrictK
  rw [List.mem_filter, mem_foldK]
  cases hi : inR f t x.key with
  | true =>
    simp only [and_true, if_true]
    cases lastOf x.key l with
    | none => rw [List.mem_filter]; simp [hi]
    | some e => rfl
  | false =>
    simp [hi]
theorem restrict_len (f t : ByteArray) (m : List Kv) : (restrictK f t m).length ≤ m.length := List.length_filter_le _ _
theorem filter_len (f t : ByteArray) (l : List Ev) : (filterE f t l).length ≤ l.length := List.length_filter_le _ _

/-! rows of one revision -/
def sameRev (r : List Ev) (e : Ev) : Bool := match r.getLast? with
  | none => false
  | some p => decide (p.rev = e.rev)
def cutS (rows : List (List Ev)) (e : Ev) : List (List Ev) := match rows.getLast? with
  | none => [[e]]
  | some r => if sameRev r e then rows.dropLast ++ [r ++ [e]] else rows ++ [[e]]
def cutE (l : List Ev) : List (List Ev) := l.foldl cutS []
theorem drop_last {α : Type} {l : List α} {x : α} (h : l.getLast? = some x) : l = l.dropLast ++ [x] := by
  rw [List.getLast?_eq_some_iff] at h
  obtain ⟨r, rfl⟩ := h
  simp
theorem cutS_flat (rows : List (List Ev)) (e : Ev) : (cutS rows e).flatten = rows.flatten ++ [e] := by
  unfold cutS
  cases h : rows.getLast? with
  | none => rw [List.getLast?_eq_none_iff] at h; subst h; rfl
  | some r =>
    have := drop_last h
    dsimp only
    split
    · conv => rhs; rw [this]
      simp
    · simp
theorem cutS_ne {rows : List (List Ev)} {e : Ev} (h : ∀ r ∈ rows, r ≠ []) : ∀ r ∈ cutS rows e, r ≠ [] := by
  unfold cutS
  cases hl : rows.getLast? with
  | none => simp
  | some r =>
    dsimp only
    split
    · intro x hx
      rcases List.mem_append.1 hx with hx | hx
      · exact h x ((List.dropLast_sublist rows).subset hx)
      · simp only [List.mem_singleton] at hx; subst hx; simp
    · intro x hx
      rcases List.mem_append.1 hx with hx | hx
      · exact h x hx
      · simp only [List.mem_singleton] at hx; subst hx; simp
theorem foldl_flat : ∀ (l : List Ev) (rows : List (List Ev)), (l.foldl cutS rows).flatten = rows.flatten ++ l
  | [], rows => by simp
  | e :: r, rows => by rw [List.foldl_cons, foldl_flat r, cutS_flat]; simp
theorem foldl_ne : ∀ (l : List Ev) (rows : List (List Ev)), (∀ r ∈ rows, r ≠ []) → ∀ r ∈ l.foldl cutS rows, r ≠ []
  | [], rows, h => h
  | e :: r, rows, h => foldl_ne r _ (cutS_ne h)
theorem cut_flat (l : List Ev) : (cutE l).flatten = l := by rw [cutE, foldl_flat]; simp
theorem cut_ne (l : List Ev) : ∀ r ∈ cutE l, r ≠ [] := foldl_ne l [] (by simp)
theorem cutS_len (rows : List (List Ev)) (e : Ev) : (cutS rows e).length ≤ rows.length + 1 := by
  unfold cutS
  cases h : rows.getLast? with
  | none => simp
  | some r =>
    dsimp only
    split
    · simp only [List.length_append, List.length_dropLast, List.length_cons, List.length_nil]; omega
    · simp
theorem foldl_cut_len : ∀ (l : List Ev) (rows : List (List Ev)), (l.foldl cutS rows).length ≤ rows.length + l.length
  | [], rows => by simp
  | e :: r, rows => by
    have h1 := foldl_cut_len r (cutS rows e)
    have h2 := cutS_len rows e
    rw [List.foldl_cons]; simp only [List.length_cons]; omega
theorem cut_len (l : List Ev) : (cutE l).length ≤ l.length := by have := foldl_cut_len l []; simpa [cutE] using this

/-! a map; the same -/
def mapB : List Kv → Bool
  | [] => true
  | [_] => true
  | x :: y :: r => kl x.key y.key && mapB (y :: r)
theorem mapB_srt : ∀ {m : List Kv}, mapB m = true ↔ Srt Kv.key m
  | [] => by simp [mapB, Srt]
  | [x] => by simp [mapB, Srt]
  | x :: y :: r => by
    have ih := mapB_srt (m := y :: r)
    unfold mapB
    rw [Bool.and_eq_true, ih]
    constructor
    · rintro ⟨h1, h2⟩
      refine List.pairwise_cons.2 ⟨fun z hz => ?_, h2⟩
      rcases List.mem_cons.1 hz with rfl | hz
      · exact h1
      · exact kl_trans h1 ((List.pairwise_cons.1 h2).1 z hz)
    · intro h
      obtain ⟨h1, h2⟩ := List.pairwise_cons.1 h
      exact ⟨h1 y (by simp), h2⟩
def evB (a b : Ev) : Bool := decide (a.rev = b.rev) && (decide (a.key = b.key) && (decide (a.val = b.val) && decide (a.del = b.del)))
def kvB (a b : Kv) : Bool := decide (a.key = b.key) && (decide (a.val = b.val) && decide (a.rev = b.rev))
theorem evB_eq {a b : Ev} : evB a b = true ↔ a = b := by
  unfold evB; cases a; cases b; simp
theorem kvB_eq {a b : Kv} : kvB a b = true ↔ a = b := by
  unfold kvB; cases a; cases b; simp
def sameB {α : Type} (f : α → α → Bool) : List α → List α → Bool
  | [], [] => true
  | a :: r, b :: s => f a b && sameB f r s
  | _, _ => false
theorem sameB_eq {α : Type} {f : α → α → Bool} (hf : ∀ {a b}, f a b = true ↔ a = b) : ∀ {l k : List α}, sameB f l k = true ↔ l = k
  | [], [] => by simp [sameB]
  | a :: r, [] => by simp [sameB]
  | [], b :: s => by simp [sameB]
  | a :: r, b :: s => by simp [sameB, hf, sameB_eq hf]

/-! one key -/
def curOf (k : ByteArray) (m : List Kv) (l : List Ev) : Option Kv := match lastOf k l with
  | some e => if e.del then none else some e.kv
  | none => m.find? (fun x => decide (x.key = k))
theorem one_range (k o : ByteArray) : inR k (k ++ ⟨#[0]⟩) o = decide (o = k) := by
  unfold inR
  have z1 : (⟨#[0]⟩ : ByteArray).toList = [0] := by rw [ByteArray.toList_eq]
  rw [bs_app, z1, one_in]
  by_cases h : o = k
  · subst h; simp
  · have : o.toList ≠ k.toList := fun e => h (bs_inj e)
    simp [h, this]
theorem key_of {k : ByteArray} {m : List Kv} (hm : Srt Kv.key m) (l : List Ev) : restrictK k (k ++ ⟨#[0]⟩) (foldK m l) = (curOf k m l).toList := by
  refine srt_ext (key := Kv.key) (srt_filter (srt_foldK hm) _) ?_ (fun x => ?_)
  · cases curOf k m l with
    | none => exact Srt.nil
    | some x => exact List.pairwise_singleton _ _
  · unfold restrictK
    rw [List.mem_filter, mem_foldK, one_range, decide_eq_true_eq]
    unfold curOf
    constructor
    · rintro ⟨h, rfl⟩
      cases hl : lastOf x.key l with
      | some e =>
        rw [hl] at h
        obtain ⟨h1, rfl⟩ := h
        simp [h1]
      | none =>
        rw [hl] at h
        simp only [Option.mem_toList, Option.mem_def]
        cases hf : m.find? (fun y => decide (y.key = x.key)) with
        | none => rw [List.find?_eq_none] at hf; have h9 := hf x h; simp at h9
        | some y =>
          have h2 := List.find?_some hf
          have h3 := List.mem_of_find?_eq_some hf
          rw [srt_one hm y h3 x h (by simpa using h2)]
    · intro h
      cases hl : lastOf k l with
      | some e =>
        obtain ⟨_, hk⟩ := lastOf_some hl
        rw [hl] at h
        cases hd : e.del with
        | true => simp [hd] at h
        | false =>
          simp [hd] at h
          subst h
          have : e.kv.key = k := hk
          rw [this, hl]
          exact ⟨⟨hd, rfl⟩, rfl⟩
      | none =>
        rw [hl] at h
        simp only [Option.mem_toList, Option.mem_def] at h
        have h2 := List.find?_some h
        have h3 := List.mem_of_find?_eq_some h
        have h4 : x.key = k := by simpa using h2
        rw [h4, hl]
        exact ⟨h3, rfl⟩
end Go.Proofs.Ytbbhekmhffhpfaa
