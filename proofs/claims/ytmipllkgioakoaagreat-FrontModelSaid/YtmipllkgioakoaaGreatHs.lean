/- A MAP AT ALL ITS REVISIONS, PLAINLY: which ops count, what they make, what there is at a revision; its laws. No memory here. -/
import Derived.Test.YtmipllkgioakoaaGreatEv
namespace Go.Proofs.YtmipllkgioakoaaGreat
open Go.RowKit
set_option linter.unusedVariables false
set_option linter.unusedSimpArgs false

/-- an op -/
structure Od where
  key : ByteArray
  val : ByteArray
  del : Bool
  wf : key.size ≤ maxLen ∧ val.size ≤ maxLen
def Kv.zero : Kv := ⟨⟨#[]⟩, ⟨#[]⟩, 0, by decide⟩
def getK (k : ByteArray) (m : List Kv) : Option Kv := m.find? (fun x => decide (x.key = k))
theorem getK_some {k : ByteArray} {m : List Kv} {x : Kv} (h : getK k m = some x) : x ∈ m ∧ x.key = k :=
  ⟨List.mem_of_find?_eq_some h, by have := List.find?_some h; simpa using this⟩
theorem getK_none {k : ByteArray} {m : List Kv} : getK k m = none ↔ ∀ x ∈ m, x.key ≠ k := by
  unfold getK; rw [List.find?_eq_none]; simp
theorem getK_srt {m : List Kv} (hm : Srt Kv.key m) {k : ByteArray} {x : Kv} : getK k m = some x ↔ x ∈ m ∧ x.key = k := by
  refine ⟨getK_some, fun ⟨h1, h2⟩ => ?_⟩
  cases hg : getK k m with
  | none => exact absurd h2 (getK_none.1 hg x h1)
  | some y =>
    obtain ⟨h3, h4⟩ := getK_some hg
    rw [srt_one hm y h3 x h1 (h4.trans h2.symm)]
theorem getK_ext {m m' : List Kv} (hm : Srt Kv.key m) (hm' : Srt Kv.key m') {k : ByteArray} (h : ∀ x : Kv, x.key = k → (x ∈ m ↔ x ∈ m')) : getK k m = getK k m' := by
  cases hg : getK k m with
  | none =>
    symm
    rw [getK_none] at hg ⊢
    exact fun x hx hk => hg x ((h x hk).2 hx) hk
  | some y =>
    obtain ⟨h3, h4⟩ := getK_some hg
    exact ((getK_srt hm').2 ⟨(h y h4).1 h3, h4⟩).symm
/-- the ops that count -/
def cntB (m : List Kv) (o : Od) (r : List Od) : Bool := !(r.any (fun y => decide (y.key = o.key))) && ((getK o.key m).isSome || !o.del)
def countO (m : List Kv) : List Od → List Od
  | [] => []
  | o :: r => if cntB m o r then o :: countO m r else countO m r
theorem countO_len (m : List Kv) : ∀ l : List Od, (countO m l).length ≤ l.length
  | [] => Nat.le_refl _
  | o :: r => by
    have := countO_len m r
    unfold countO
    split
    · simp only [List.length_cons]; omega
    · simp only [List.length_cons]; omega
def Od.ev (rev : Int) (o : Od) : Ev := ⟨rev, o.key, if o.del then ⟨#[]⟩ else o.val, o.del, o.wf.1, by have := o.wf.2; split <;> first | decide | exact this⟩
/-- what there is behind the first n revisions -/
def mapN (rows : List (List Ev)) (n : Nat) : List Kv := foldK [] (rows.take n).flatten
def rowOf (rows : List (List Ev)) (ops : List Od) : List Ev := (countO (mapN rows rows.length) ops).map (Od.ev (rows.length + 1))
def putR (rows : List (List Ev)) (row : List Ev) : List (List Ev) := if row = [] then rows else rows ++ [row]
theorem srt_mapN (rows : List (List Ev)) (n : Nat) : Srt Kv.key (mapN rows n) := srt_foldK Srt.nil
theorem rowOf_len (rows : List (List Ev)) (ops : List Od) : (rowOf rows ops).length ≤ ops.length := by
  unfold rowOf; rw [List.length_map]; exact countO_len _ _
theorem putR_len (rows : List (List Ev)) (row : List Ev) : rows.length ≤ (putR rows row).length ∧ (putR rows row).length ≤ rows.length + 1 := by
  unfold putR; split
  · omega
  · rw [List.length_append, List.length_singleton]; omega
theorem mapN_put {rows : List (List Ev)} {n : Nat} (hn : n ≤ rows.length) (row : List Ev) : mapN (putR rows row) n = mapN rows n := by
  unfold mapN putR
  split
  · rfl
  · rw [List.take_append_of_le_length hn]
theorem mapN_new (rows : List (List Ev)) (row : List Ev) : mapN (putR rows row) (putR rows row).length = foldK (mapN rows rows.length) row := by
  unfold mapN putR
  split
  · rename_i h; rw [h, foldK_nil]
  · rw [List.take_length, List.take_length, List.flatten_append, foldK_app]; simp
theorem mapN_len (rows : List (List Ev)) (n : Nat) : (mapN rows n).length ≤ rows.flatten.length := by
  unfold mapN
  have h1 := foldK_len (rows.take n).flatten []
  have h2 : ((rows.take n).flatten).length ≤ rows.flatten.length := by
    conv => rhs; rw [← List.take_append_drop n rows]
    rw [List.flatten_append, List.length_append]; omega
  simp only [List.length_nil] at h1
  omega
theorem mapN_step {rows : List (List Ev)} {n : Nat} {r : List Ev} (h : rows[n]? = some r) : mapN rows (n + 1) = foldK (mapN rows n) r := by
  obtain ⟨h1, rfl⟩ := List.getElem?_eq_some_iff.1 h
  unfold mapN
  rw [List.take_add_one, h, List.flatten_append, foldK_app]; simp

/-! all of it -/
structure HA where
  rows : List (List Ev)
  hor : Nat
def HA.rev (H : HA) : Nat := H.rows.length
def HA.app (H : HA) (ops : List Od) : HA := ⟨putR H.rows (rowOf H.rows ops), H.hor⟩
def HA.told (H : HA) (ops : List Od) : List Ev := rowOf H.rows ops
def HA.comE (H : HA) (rev : Int) : Int := if rev < 0 then 1 else if (H.rows.length : Int) < rev then 6 else 0
def HA.com (H : HA) (rev : Int) : HA := if H.comE rev = 0 then ⟨H.rows, max H.hor rev.toNat⟩ else H
def HA.atE (H : HA) (rev : Int) : Int := if rev < H.hor then 5 else if (H.rows.length : Int) < rev then 6 else 0
def HA.atL (H : HA) (rev : Int) (f t : ByteArray) : List Kv := if H.atE rev = 0 then restrictK f t (mapN H.rows rev.toNat) else []
def HA.evE (H : HA) (rev : Int) : Int := if rev ≤ H.hor then 5 else if (H.rows.length : Int) < rev then 6 else 0
def HA.evL (H : HA) (rev : Int) : List Ev := if H.evE rev = 0 then H.rows.getD (rev.toNat - 1) [] else []
def HA.zero : HA := ⟨[], 0⟩
/-- behind at most n deeds of at most 8 ops -/
structure HOk (H : HA) (n : Nat) : Prop where
  rev : H.rows.length ≤ n
  hor : H.hor ≤ H.rows.length
  row : ∀ r ∈ H.rows, r.length ≤ 20
theorem HOk.zero : HOk HA.zero 0 := ⟨Nat.le_refl _, Nat.le_refl _, by intro r h; cases h⟩
theorem HOk.mono {H : HA} {n n' : Nat} (h : HOk H n) (hn : n ≤ n') : HOk H n' := ⟨Nat.le_trans h.rev hn, h.hor, h.row⟩
theorem HOk.app {H : HA} {n : Nat} (h : HOk H n) {ops : List Od} (ho : ops.length ≤ 20) : HOk (H.app ops) (n + 1) := by
  have h1 := putR_len H.rows (rowOf H.rows ops)
  have h2 := h.rev
  have h3 := h.hor
  refine ⟨by show (putR _ _).length ≤ _; omega, by show H.hor ≤ (putR _ _).length; omega, fun r hr => ?_⟩
  have hr : r ∈ putR H.rows (rowOf H.rows ops) := hr
  unfold putR at hr
  split at hr
  · exact h.row r hr
  · rcases List.mem_append.1 hr with hr | hr
    · exact h.row r hr
    · simp only [List.mem_singleton] at hr
      subst hr
      have := rowOf_len H.rows ops; omega
theorem comE_zero {H : HA} {rev : Int} : H.comE rev = 0 ↔ 0 ≤ rev ∧ rev ≤ H.rows.length := by
  unfold HA.comE
  split
  · simp; omega
  · split
    · simp; omega
    · simp; omega
theorem HOk.com {H : HA} {n : Nat} (h : HOk H n) (rev : Int) : HOk (H.com rev) n := by
  unfold HA.com
  split
  · rename_i hz
    have := comE_zero.1 hz
    have h2 := h.hor
    exact ⟨h.rev, by show max H.hor rev.toNat ≤ H.rows.length; omega, h.row⟩
  · exact h
theorem flat_len {n : Nat} : ∀ (rows : List (List Ev)), (∀ r ∈ rows, r.length ≤ n) → rows.flatten.length ≤ n * rows.length
  | [], _ => by simp
  | r :: s, h => by
    have h1 := flat_len s (fun x hx => h x (List.mem_cons_of_mem _ hx))
    have h2 := h r (by simp)
    rw [List.flatten_cons, List.length_append, List.length_cons, Nat.mul_add]; omega
theorem HOk.flat {H : HA} {n : Nat} (h : HOk H n) : H.rows.flatten.length ≤ 20 * n := by
  have h1 := flat_len H.rows h.row
  have h2 := h.rev
  omega
/-- later: the revisions stay, the horizon doesn't fall -/
structure HLater (H H' : HA) : Prop where
  hor : H.hor ≤ H'.hor
  len : H.rows.length ≤ H'.rows.length
  map : ∀ n, n ≤ H.rows.length → mapN H'.rows n = mapN H.rows n
theorem HLater.refl (H : HA) : HLater H H := ⟨Nat.le_refl _, Nat.le_refl _, fun _ _ => rfl⟩
theorem HLater.trans {A B C : HA} (h : HLater A B) (k : HLater B C) : HLater A C :=
  ⟨Nat.le_trans h.hor k.hor, Nat.le_trans h.len k.len, fun n hn => by rw [k.map n (Nat.le_trans hn h.len), h.map n hn]⟩
theorem HLater.app (H : HA) (ops : List Od) : HLater H (H.app ops) := ⟨Nat.le_refl _, (putR_len _ _).1, fun n hn => mapN_put hn _⟩
theorem HLater.com (H : HA) (rev : Int) : HLater H (H.com rev) := by
  unfold HA.com; split
  · exact ⟨Nat.le_max_left _ _, Nat.le_refl _, fun _ _ => rfl⟩
  · exact HLater.refl H
theorem inR_all (k : ByteArray) : inR ⟨#[]⟩ ⟨#[]⟩ k = true := by
  have h : (⟨#[]⟩ : ByteArray).toList = [] := by rw [ByteArray.toList_eq]
  unfold inR inB
  rw [h, ls_nil]; simp
theorem restrict_all (m : List Kv) : restrictK ⟨#[]⟩ ⟨#[]⟩ m = m := by
  unfold restrictK
  rw [List.filter_eq_self]
  exact fun x _ => inR_all _
theorem atE_zero {H : HA} {rev : Int} : H.atE rev = 0 ↔ H.hor ≤ rev ∧ rev ≤ H.rows.length := by
  unfold HA.atE
  split
  · simp; omega
  · split
    · simp; omega
    · simp; omega
theorem at_ok {H : HA} {n : Nat} (h1 : H.hor ≤ n) (h2 : n ≤ H.rows.length) : H.atE n = 0 ∧ H.atL n ⟨#[]⟩ ⟨#[]⟩ = mapN H.rows n := by
  have h : H.atE n = 0 := atE_zero.2 ⟨by omega, by omega⟩
  refine ⟨h, ?_⟩
  unfold HA.atL
  rw [if_pos h, restrict_all]; simp
theorem at_old {H : HA} {n : Nat} (h1 : n < H.hor) : H.atE n = 5 := by
  unfold HA.atE; rw [if_pos (by omega)]
/-- one op alone -/
theorem rowOf_one (rows : List (List Ev)) (o : Od) : rowOf rows [o] = if (getK o.key (mapN rows rows.length)).isSome || !o.del then [o.ev (rows.length + 1)] else [] := by
  unfold rowOf countO cntB
  simp only [List.any_nil, Bool.not_false, Bool.true_and, countO]
  split <;> simp
end Go.Proofs.YtmipllkgioakoaaGreat
