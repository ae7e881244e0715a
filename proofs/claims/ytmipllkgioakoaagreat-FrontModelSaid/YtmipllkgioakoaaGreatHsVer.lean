/- A KEY's VERSIONS, PLAINLY: what of its events is kept from a horizon on, and that it tells what the document's maps tell. No memory here. -/
import Derived.Test.YtmipllkgioakoaaGreatHs
import Derived.Test.YtmipllkgioakoaaGreatHistVer
namespace Go.Proofs.YtmipllkgioakoaaGreat
open Go.RowKit
set_option linter.unusedVariables false
set_option linter.unusedSimpArgs false

theorem verR_app {a : Int} : ∀ {r l : List Ev}, (∀ e ∈ r, a < e.rev) → verR a (r ++ l) = r ++ verR a l
  | [], _, _ => rfl
  | e :: r, l, h => by
    rw [List.cons_append, verR, if_pos (h e (by simp)), verR_app (fun x hx => h x (List.mem_cons_of_mem _ hx))]; rfl
theorem fromV_app {l r : List Ev} {a : Int} (h : ∀ e ∈ r, a < e.rev) : fromV (l ++ r) a = fromV l a ++ r := by
  unfold fromV
  rw [List.reverse_append, verR_app (fun e he => h e (by simpa using he)), List.reverse_append, List.reverse_reverse]
theorem verR_verR {a b : Int} (hab : a ≤ b) : ∀ l : List Ev, verR b (verR a l) = verR b l
  | [] => rfl
  | e :: r => by
    have ih := verR_verR hab r
    by_cases h1 : a < e.rev
    · rw [show verR a (e :: r) = e :: verR a r by rw [verR, if_pos h1]]
      by_cases h2 : b < e.rev
      · rw [verR, verR, if_pos h2, if_pos h2, ih]
      · rw [verR, verR, if_neg h2, if_neg h2]
    · have h2 : ¬ b < e.rev := by omega
      rw [show verR a (e :: r) = if e.del = true then [] else [e] by rw [verR, if_neg h1], verR, if_neg h2]
      by_cases hd : e.del = true
      · simp [hd, verR]
      · simp [hd, verR, h2]
theorem fromV_fromV {a b : Int} (hab : a ≤ b) (l : List Ev) : fromV (fromV l a) b = fromV l b := by
  unfold fromV
  rw [List.reverse_reverse, verR_verR hab]
theorem verR_same {a b : Int} (hab : a ≤ b) : ∀ {l : List Ev}, (∀ e ∈ l, ¬ (a < e.rev ∧ e.rev ≤ b)) → verR b l = verR a l
  | [], _ => rfl
  | e :: r, h => by
    have ih := verR_same hab (l := r) (fun x hx => h x (List.mem_cons_of_mem _ hx))
    have h0 := h e (by simp)
    by_cases h1 : a < e.rev
    · rw [verR, verR, if_pos h1, if_pos (by omega), ih]
    · rw [verR, verR, if_neg h1, if_neg (by omega)]
theorem fromV_same {a b : Int} (hab : a ≤ b) {l : List Ev} (h : ∀ e ∈ l, ¬ (a < e.rev ∧ e.rev ≤ b)) : fromV l b = fromV l a := by
  unfold fromV
  rw [verR_same hab (fun e he => h e (by simpa using he))]
theorem fromV_sub {l : List Ev} {a : Int} : ∀ e ∈ fromV l a, e ∈ l := by
  intro e he
  unfold fromV at he
  have h1 := (verR_pre a l.reverse).subset (by simpa using he)
  simpa using h1
theorem fromV_len (l : List Ev) (a : Int) : (fromV l a).length ≤ l.length := by
  unfold fromV
  have := (verR_pre a l.reverse).length_le
  simp only [List.length_reverse] at this ⊢
  exact this
theorem find_verR {a n : Int} (h : a ≤ n) : ∀ l : List Ev, (verR a l).find? (fun e => decide (e.rev ≤ n)) = match l.find? (fun e => decide (e.rev ≤ n)) with | some e => if e.rev ≤ a ∧ e.del = true then none else some e | none => none
  | [] => rfl
  | e :: r => by
    have ih := find_verR h r
    by_cases h1 : a < e.rev
    · rw [verR, if_pos h1]
      by_cases h2 : e.rev ≤ n
      · rw [List.find?_cons_of_pos (by simpa using h2), List.find?_cons_of_pos (by simpa using h2)]
        simp only
        rw [if_neg (by omega)]
      · rw [List.find?_cons_of_neg (by simpa using h2), List.find?_cons_of_neg (by simpa using h2), ih]
    · have h2 : e.rev ≤ n := by omega
      rw [verR, if_neg h1, List.find?_cons_of_pos (l := r) (by simpa using h2)]
      simp only
      by_cases hd : e.del = true
      · rw [if_pos hd, if_pos ⟨by omega, hd⟩]; rfl
      · rw [if_neg hd, if_neg (fun h => hd h.2), List.find?_cons_of_pos (by simpa using h2)]
theorem at_fromV {a n : Int} (h : a ≤ n) (l : List Ev) (e : Ev) (hd : e.del = false) : atV (fromV l a) n = some e ↔ atV l n = some e := by
  unfold atV fromV
  rw [List.reverse_reverse, find_verR h]
  cases l.reverse.find? (fun e => decide (e.rev ≤ n)) with
  | none => simp
  | some x =>
    simp only
    split
    · rename_i hx
      constructor
      · intro hc; cases hc
      · intro hc; cases hc; rw [hd] at hx; exact absurd hx.2 (by simp)
    · rfl
theorem find_all {α : Type} {p : α → Bool} : ∀ {l : List α}, (∀ x ∈ l, p x = true) → l.find? p = l.head?
  | [], _ => rfl
  | x :: r, h => by rw [List.find?_cons_of_pos (h x (by simp))]; rfl
theorem lastOf_evs (k : ByteArray) : ∀ l : List Ev, lastOf k l = (l.filter (fun e => decide (e.key = k))).reverse.head?
  | [] => rfl
  | e :: r => by
    rw [lastOf_cons, lastOf_evs k r]
    by_cases h : e.key = k
    · rw [List.filter_cons_of_pos (by simpa using h), List.reverse_cons, List.head?_append, if_pos h]
      cases (r.filter (fun e => decide (e.key = k))).reverse.head? <;> rfl
    · rw [List.filter_cons_of_neg (by simpa using h), if_neg h]
      cases (r.filter (fun e => decide (e.key = k))).reverse.head? <;> rfl

/-- each revision's events bear it -/
structure HWf (rows : List (List Ev)) : Prop where
  rev : ∀ (i : Nat) (r : List Ev), rows[i]? = some r → ∀ e ∈ r, e.rev = (i : Int) + 1
theorem HWf.nil : HWf [] := ⟨by simp⟩
theorem HWf.snoc {rows : List (List Ev)} (h : HWf rows) {row : List Ev} (hr : ∀ e ∈ row, e.rev = (rows.length : Int) + 1) : HWf (rows ++ [row]) := ⟨fun i r hi e he => by
  rw [List.getElem?_append] at hi
  split at hi
  · exact h.rev i r hi e he
  · rename_i hl
    obtain ⟨h1, h2⟩ := List.getElem?_eq_some_iff.1 hi
    simp only [List.length_singleton] at h1
    obtain rfl : i = rows.length := by omega
    simp at h2
    subst h2
    exact hr e he⟩
theorem HWf.put {rows : List (List Ev)} (h : HWf rows) {row : List Ev} (hr : ∀ e ∈ row, e.rev = (rows.length : Int) + 1) : HWf (putR rows row) := by
  unfold putR; split
  · exact h
  · exact h.snoc hr
theorem rowOf_rev {rows : List (List Ev)} {ops : List Od} : ∀ e ∈ rowOf rows ops, e.rev = (rows.length : Int) + 1 := by
  intro e he
  unfold rowOf at he
  obtain ⟨o, _, rfl⟩ := List.mem_map.1 he
  rfl
def evsOf (rows : List (List Ev)) (k : ByteArray) : List Ev := rows.flatten.filter (fun e => decide (e.key = k))
theorem HWf.low {rows : List (List Ev)} (h : HWf rows) {n : Nat} : ∀ e ∈ (rows.take n).flatten, e.rev ≤ n := by
  intro e he
  obtain ⟨r, hr, he⟩ := List.mem_flatten.1 he
  obtain ⟨i, hi⟩ := List.mem_iff_getElem?.1 hr
  rw [List.getElem?_take] at hi
  split at hi
  · have := h.rev i r hi e he; omega
  · cases hi
theorem HWf.high {rows : List (List Ev)} (h : HWf rows) {n : Nat} : ∀ e ∈ (rows.drop n).flatten, (n : Int) < e.rev := by
  intro e he
  obtain ⟨r, hr, he⟩ := List.mem_flatten.1 he
  obtain ⟨i, hi⟩ := List.mem_iff_getElem?.1 hr
  rw [List.getElem?_drop] at hi
  have := h.rev _ r hi e he; omega
theorem evs_cut (rows : List (List Ev)) (k : ByteArray) (n : Nat) : evsOf rows k = (rows.take n).flatten.filter (fun e => decide (e.key = k)) ++ (rows.drop n).flatten.filter (fun e => decide (e.key = k)) := by
  unfold evsOf
  rw [← List.filter_append, ← List.flatten_append, List.take_append_drop]
theorem last_at {rows : List (List Ev)} (h : HWf rows) (k : ByteArray) (n : Nat) : lastOf k (rows.take n).flatten = atV (evsOf rows k) n := by
  unfold atV
  rw [lastOf_evs, evs_cut rows k n, List.reverse_append, List.find?_append]
  have h1 : List.find? (fun e : Ev => decide (e.rev ≤ (n : Int))) ((rows.drop n).flatten.filter (fun e => decide (e.key = k))).reverse = none := by
    rw [List.find?_eq_none]
    intro e he
    have := h.high e (List.mem_filter.1 (by simpa using he)).1
    simp; omega
  rw [h1, Option.none_or]
  refine (find_all fun e he => ?_).symm
  have := h.low e (List.mem_filter.1 (by simpa using he)).1
  simpa using this
/-- a key's versions -/
def versN (rows : List (List Ev)) (hor : Nat) (k : ByteArray) : List Ev := fromV (evsOf rows k) hor
theorem vers_key {rows : List (List Ev)} {hor : Nat} {k : ByteArray} : ∀ e ∈ versN rows hor k, e.key = k := by
  intro e he
  have := (List.mem_filter.1 (fromV_sub e he)).2
  simpa using this
theorem vers_len (rows : List (List Ev)) (hor : Nat) (k : ByteArray) : (versN rows hor k).length ≤ rows.flatten.length :=
  Nat.le_trans (fromV_len _ _) (List.length_filter_le _ _)
theorem vers_at {rows : List (List Ev)} (h : HWf rows) {hor n : Nat} (hn : hor ≤ n) (k : ByteArray) (e : Ev) (hd : e.del = false) : atV (versN rows hor k) n = some e ↔ lastOf k (rows.take n).flatten = some e := by
  unfold versN
  rw [at_fromV (by omega) _ _ hd, last_at h]
theorem at_mem {l : List Ev} {n : Int} {e : Ev} (h : atV l n = some e) : e ∈ l := by
  unfold atV at h
  simpa using List.mem_of_find?_eq_some h
/-- whether there is a key -/
def thereV (l : List Ev) (n : Int) : Bool := match atV l n with | some e => !e.del | none => false
theorem there_get {rows : List (List Ev)} (h : HWf rows) {hor n : Nat} (hn : hor ≤ n) (k : ByteArray) : thereV (versN rows hor k) n = (getK k (mapN rows n)).isSome := by
  have key : thereV (versN rows hor k) n = true ↔ (getK k (mapN rows n)).isSome = true := by
    constructor
    · intro ht
      unfold thereV at ht
      split at ht
      · rename_i e he
        have hd : e.del = false := by simpa using ht
        have h1 := (vers_at h hn k e hd).1 he
        have hk := (lastOf_some h1).2
        have hm : e.kv ∈ mapN rows n := by
          unfold mapN
          rw [mem_foldK]
          show match lastOf e.key _ with | none => _ | some e' => _
          rw [hk, h1]
          exact ⟨hd, rfl⟩
        rw [(getK_srt (srt_mapN rows n)).2 ⟨hm, hk⟩]; rfl
      · cases ht
    · intro hg
      obtain ⟨x, hx⟩ := Option.isSome_iff_exists.1 hg
      obtain ⟨h1, h2⟩ := getK_some hx
      unfold mapN at h1
      rw [mem_foldK, h2] at h1
      cases hl : lastOf k (rows.take n).flatten with
      | none => rw [hl] at h1; cases h1
      | some e =>
        rw [hl] at h1
        unfold thereV
        rw [(vers_at h hn k e h1.1).2 hl]
        simp [h1.1]
  cases ha : thereV (versN rows hor k) n <;> cases hb : (getK k (mapN rows n)).isSome <;> simp_all
/-- what a range has at a revision, out of the keys' versions, in whatever turn -/
theorem at_list {rows : List (List Ev)} (h : HWf rows) {hor n : Nat} (hn : hor ≤ n) {f t : ByteArray} {o : List Ev} (ho : ∀ e, e ∈ o ↔ inR f t e.key = true ∧ atV (versN rows hor e.key) n = some e) : foldK [] o = restrictK f t (mapN rows n) := by
  refine srt_ext (key := Kv.key) (srt_foldK Srt.nil) (srt_filter (srt_mapN rows n) _) fun x => ?_
  have hr : x ∈ restrictK f t (mapN rows n) ↔ x ∈ mapN rows n ∧ inR f t x.key = true := by unfold restrictK; rw [List.mem_filter]
  have hlast : ∀ e, lastOf x.key o = some e → inR f t x.key = true ∧ atV (versN rows hor x.key) n = some e := fun e he => by
    obtain ⟨h1, h2⟩ := lastOf_some he
    have := (ho e).1 h1
    rw [h2] at this; exact this
  show x ∈ foldK [] o ↔ x ∈ restrictK f t (mapN rows n)
  rw [hr]
  unfold mapN
  rw [mem_foldK, mem_foldK]
  constructor
  · intro hx
    cases hl : lastOf x.key o with
    | none => rw [hl] at hx; cases hx
    | some e =>
      rw [hl] at hx
      obtain ⟨h1, h2⟩ := hlast e hl
      rw [(vers_at h hn _ e hx.1).1 h2]
      exact ⟨hx, h1⟩
  · rintro ⟨hx, hin⟩
    cases hl : lastOf x.key (rows.take n).flatten with
    | none => rw [hl] at hx; cases hx
    | some e =>
      rw [hl] at hx
      have h2 := (vers_at h hn _ e hx.1).2 hl
      have hk := (lastOf_some hl).2
      have hm : e ∈ o := (ho e).2 (by rw [hk]; exact ⟨hin, h2⟩)
      cases hl2 : lastOf x.key o with
      | none => exact absurd hk (lastOf_none.1 hl2 e hm)
      | some e' =>
        obtain ⟨_, h3⟩ := hlast e' hl2
        rw [h2] at h3
        cases h3
        exact hx
/-- a row more -/
theorem vers_snoc {rows : List (List Ev)} {row : List Ev} (hr : ∀ e ∈ row, e.rev = (rows.length : Int) + 1) {hor : Nat} (hh : hor ≤ rows.length) (k : ByteArray) : versN (rows ++ [row]) hor k = versN rows hor k ++ row.filter (fun e => decide (e.key = k)) := by
  unfold versN evsOf
  rw [List.flatten_append, List.filter_append]
  simp only [List.flatten_cons, List.flatten_nil, List.append_nil]
  rw [fromV_app]
  intro e he
  have := hr e (List.mem_filter.1 he).1
  omega
/-- a higher horizon: the keys that have an event on the way -/
def goneN (rows : List (List Ev)) (a b : Nat) : List Ev := ((rows.take b).drop a).flatten
theorem gone_self (rows : List (List Ev)) (a : Nat) : goneN rows a a = [] := by unfold goneN; rw [List.drop_take]; simp
theorem gone_step {rows : List (List Ev)} {a c : Nat} {r : List Ev} (h : rows[c]? = some r) (hac : a ≤ c) : goneN rows a (c + 1) = goneN rows a c ++ r := by
  unfold goneN
  have hc := (List.getElem?_eq_some_iff.1 h).1
  rw [List.take_add_one, h, List.drop_append_of_le_length (by rw [List.length_take]; omega), List.flatten_append]; simp
theorem gone_len (rows : List (List Ev)) (a b : Nat) : (goneN rows a b).length ≤ rows.flatten.length := by
  unfold goneN
  have h1 := congrArg List.length (congrArg List.flatten (List.take_append_drop b rows))
  have h2 := congrArg List.length (congrArg List.flatten (List.take_append_drop a (rows.take b)))
  rw [List.flatten_append, List.length_append] at h1 h2
  omega
theorem take_gone {rows : List (List Ev)} {a b : Nat} (hab : a ≤ b) : (rows.take b).flatten.length = (rows.take a).flatten.length + (goneN rows a b).length := by
  unfold goneN
  have h2 := congrArg List.length (congrArg List.flatten (List.take_append_drop a (rows.take b)))
  rw [List.flatten_append, List.length_append, List.take_take, Nat.min_eq_left hab] at h2
  exact h2.symm
theorem vers_raise {rows : List (List Ev)} {a b : Nat} (hab : a ≤ b) (k : ByteArray) : fromV (versN rows a k) b = versN rows b k := by
  unfold versN; exact fromV_fromV (by omega) _
theorem vers_stay {rows : List (List Ev)} (h : HWf rows) {a b : Nat} (hab : a ≤ b) {k : ByteArray} (hk : ∀ e ∈ goneN rows a b, e.key ≠ k) : versN rows a k = versN rows b k := by
  unfold versN
  refine (fromV_same (by omega) fun e he hc => ?_).symm
  obtain ⟨he, hek⟩ := List.mem_filter.1 he
  have hek : e.key = k := by simpa using hek
  refine hk e ?_ hek
  obtain ⟨r, hr, her⟩ := List.mem_flatten.1 he
  obtain ⟨i, hi⟩ := List.mem_iff_getElem?.1 hr
  have hrev := h.rev i r hi e her
  unfold goneN
  refine List.mem_flatten.2 ⟨r, List.mem_iff_getElem?.2 ⟨i - a, ?_⟩, her⟩
  rw [List.getElem?_drop, List.getElem?_take, if_pos (by omega), ← hi]
  congr 1
  omega
end Go.Proofs.YtmipllkgioakoaaGreat
