/- WATCHES, PLAINLY: what one may be told, is told, and is then; a map's revisions that it is told. No memory here.
GENERIC: A ROW OF ROWS THAT IS ONE's OWN: its rows are read, and lie outside its own block, and outside T -/
import Derived.Test.YtmbfcdoemcffpaaHsVer
import Derived.Test.YtmbfcdoemcffpaaAway
namespace Go.Proofs.Ytmbfcdoemcffpaa
open Go.RowKit
set_option linter.unusedVariables false
set_option linter.unusedSimpArgs false

/-- a watch -/
structure Cu where
  f : ByteArray
  t : ByteArray
  next : Int
  once : Bool
  dead : Bool
/-- what it is told -/
structure Nt where
  err : Int
  hor : Int
  upto : Int
  rows : List (List Ev)
def Cu.win (C : Cu) (rev hor most : Int) : Int := if C.dead = true ∨ C.next ≤ hor ∨ rev < C.next - 1 then 0 else max (min (rev - C.next + 1) most) 0
def Cu.all (C : Cu) (rs : List (List Ev)) : List Ev := (rs.map (filterE C.f C.t)).flatten
def Cu.full (C : Cu) (rs : List (List Ev)) : List (List Ev) := (rs.map (filterE C.f C.t)).filter (fun r => !r.isEmpty)
def Cu.tell (C : Cu) (rs : List (List Ev)) : List (List Ev) := if C.once then (if C.all rs = [] then [] else [lastE (C.all rs)]) else C.full rs
def Cu.then' (C : Cu) (rev hor : Int) (n : Nat) : Cu :=
  if C.dead = true then C else if C.next ≤ hor then ⟨C.f, C.t, C.next, C.once, true⟩ else if rev < C.next - 1 then C else ⟨C.f, C.t, C.next + n, C.once, C.dead⟩
def Cu.told (C : Cu) (rev hor : Int) (rs : List (List Ev)) : Nt :=
  if C.dead = true then ⟨4, 0, 0, []⟩ else if C.next ≤ hor then ⟨5, hor, 0, []⟩ else if rev < C.next - 1 then ⟨6, 0, 0, []⟩ else ⟨0, 0, C.next + rs.length - 1, C.tell rs⟩
/-- a map's events from a revision on -/
def HA.part (H : HA) (next : Int) (n : Nat) : List (List Ev) := (H.rows.drop (next - 1).toNat).take n
def Cu.n (C : Cu) (H : HA) (most : Int) : Nat := (C.win H.rows.length H.hor most).toNat
def Cu.got (C : Cu) (H : HA) (most : Int) : List (List Ev) := H.part C.next (C.n H most)
def Cu.pollC (C : Cu) (H : HA) (most : Int) : Cu := C.then' H.rows.length H.hor (C.n H most)
def Cu.pollN (C : Cu) (H : HA) (most : Int) : Nt := C.told H.rows.length H.hor (C.got H most)

theorem flat_full (l : List (List Ev)) : (l.filter (fun r => !r.isEmpty)).flatten = l.flatten := by
  induction l with
  | nil => rfl
  | cons x r ih => cases x <;> simp [ih]
theorem all_eq (C : Cu) (rs : List (List Ev)) : C.all rs = filterE C.f C.t rs.flatten := by
  unfold Cu.all filterE
  rw [List.filter_flatten]
/-- folded: with Once or not, the same -/
theorem tell_fold (C : Cu) (rs : List (List Ev)) {m : List Kv} (hm : Srt Kv.key m) : foldK m (C.tell rs).flatten = foldK m (filterE C.f C.t rs.flatten) := by
  rw [← all_eq]
  unfold Cu.tell
  split
  · split
    · rename_i h; rw [h]; rfl
    · simp only [List.flatten_cons, List.flatten_nil, List.append_nil]; exact fold_last hm _
  · unfold Cu.full Cu.all; rw [flat_full]
theorem part_len {H : HA} {next : Int} {n : Nat} (h : 1 ≤ next) (hn : next - 1 + n ≤ H.rows.length) : (H.part next n).length = n := by
  unfold HA.part; rw [List.length_take, List.length_drop]; omega
theorem part_zero (H : HA) (next : Int) : H.part next 0 = [] := by unfold HA.part; simp
/-- a watch that isn't dead, nor old, nor ahead -/
structure Live (C : Cu) (H : HA) (at' : Nat) : Prop where
  dead : C.dead = false
  next : C.next = at' + 1
  hor : H.hor ≤ at'
  rev : at' ≤ H.rows.length
theorem Live.win {C : Cu} {H : HA} {a : Nat} (h : Live C H a) (most : Int) : C.win H.rows.length H.hor most = max (min ((H.rows.length : Int) - a) most) 0 := by
  unfold Cu.win
  have h1 := h.next
  have h2 := h.hor
  have h3 := h.rev
  rw [if_neg (by rw [h.dead]; simp; omega)]
  omega
theorem Live.n_le {C : Cu} {H : HA} {a : Nat} (h : Live C H a) (most : Int) : a + C.n H most ≤ H.rows.length := by
  unfold Cu.n
  rw [h.win]
  have := h.rev
  omega
theorem Live.pollC {C : Cu} {H : HA} {a : Nat} (h : Live C H a) (most : Int) : C.pollC H most = ⟨C.f, C.t, C.next + C.n H most, C.once, C.dead⟩ := by
  have h1 := h.next
  have h2 := h.hor
  have h3 := h.rev
  unfold Cu.pollC Cu.then'
  rw [if_neg (by rw [h.dead]; simp), if_neg (by omega), if_neg (by omega)]
theorem Live.len {C : Cu} {H : HA} {a : Nat} (h : Live C H a) (most : Int) : (C.got H most).length = C.n H most := by
  unfold Cu.got
  have := h.n_le most
  have h1 := h.next
  exact part_len (by omega) (by omega)
theorem Live.pollN {C : Cu} {H : HA} {a : Nat} (h : Live C H a) (most : Int) : C.pollN H most = ⟨0, 0, a + C.n H most, C.tell (C.got H most)⟩ := by
  have h1 := h.next
  have h2 := h.hor
  have h3 := h.rev
  unfold Cu.pollN Cu.told
  rw [if_neg (by rw [h.dead]; simp), if_neg (by omega), if_neg (by omega), h.len, h1]
  congr 1
  omega
theorem Live.after {C : Cu} {H : HA} {a : Nat} (h : Live C H a) (most : Int) : Live (C.pollC H most) H (a + C.n H most) := by
  rw [h.pollC]
  exact ⟨h.dead, by show C.next + _ = _; rw [h.next]; omega, by have := h.hor; omega, h.n_le most⟩
theorem Live.got_eq {C : Cu} {H : HA} {a : Nat} (h : Live C H a) (most : Int) : C.got H most = (H.rows.drop a).take (C.n H most) := by
  unfold Cu.got HA.part
  rw [h.next]
  congr 2
  omega
/-- told, and folded, it is what there is -/
theorem Live.fold {C : Cu} {H : HA} {a : Nat} (h : Live C H a) (most : Int) : foldK (restrictK C.f C.t (mapN H.rows a)) (C.tell (C.got H most)).flatten = restrictK C.f C.t (mapN H.rows (a + C.n H most)) := by
  rw [tell_fold C _ (m := restrictK C.f C.t (mapN H.rows a)) (srt_filter (srt_mapN _ _) _), ← restrict_fold (srt_mapN _ _), h.got_eq]
  unfold mapN
  rw [← foldK_app, ← List.flatten_append, ← List.take_add]
/-- old: told once -/
theorem old_poll {C : Cu} {H : HA} (hd : C.dead = false) (ho : C.next ≤ H.hor) (most : Int) : C.pollC H most = ⟨C.f, C.t, C.next, C.once, true⟩ ∧ C.pollN H most = ⟨5, H.hor, 0, []⟩ := by
  unfold Cu.pollC Cu.then' Cu.pollN Cu.told
  rw [if_neg (by rw [hd]; simp), if_pos ho, if_neg (by rw [hd]; simp), if_pos ho]
  exact ⟨rfl, rfl⟩
/-- a row that is told is of one revision -/
theorem full_mem {C : Cu} {rs : List (List Ev)} {r : List Ev} (h : r ∈ C.full rs) : r ≠ [] ∧ ∃ x ∈ rs, r = filterE C.f C.t x := by
  unfold Cu.full at h
  rw [List.mem_filter, List.mem_map] at h
  obtain ⟨⟨x, hx, rfl⟩, h2⟩ := h
  exact ⟨by intro h; rw [h] at h2; simp at h2, x, hx, rfl⟩
/-- revisions rise -/
theorem HWf.pair {rows : List (List Ev)} (h : HWf rows) : rows.Pairwise (fun r s => ∀ x ∈ r, ∀ y ∈ s, x.rev < y.rev) := by
  rw [List.pairwise_iff_getElem]
  intro i j hi hj hij x hx y hy
  have h1 := h.rev i _ (List.getElem?_eq_getElem hi) x hx
  have h2 := h.rev j _ (List.getElem?_eq_getElem hj) y hy
  omega
def Rises (L : List (List Ev)) : Prop := L.Pairwise (fun r s => ∀ x ∈ r, ∀ y ∈ s, x.rev < y.rev)
theorem Rises.full {rs : List (List Ev)} (h : Rises rs) (C : Cu) : Rises (C.full rs) := by
  unfold Rises Cu.full
  refine List.Pairwise.filter _ ?_
  rw [List.pairwise_map]
  exact h.imp (fun hrs x hx y hy => hrs x (List.mem_filter.1 hx).1 y (List.mem_filter.1 hy).1)
theorem Live.rises {C : Cu} {H : HA} {a : Nat} (h : Live C H a) (hw : HWf H.rows) (most : Int) : Rises (C.full (C.got H most)) ∧ ∀ r ∈ C.full (C.got H most), ∀ x ∈ r, (a : Int) < x.rev := by
  rw [h.got_eq]
  refine ⟨Rises.full (List.Pairwise.sublist ((List.take_sublist _ _).trans (List.drop_sublist _ _)) hw.pair) C, fun r hr x hx => ?_⟩
  obtain ⟨_, y, hy, rfl⟩ := full_mem hr
  have h1 := (List.mem_filter.1 hx).1
  exact hw.high x (List.mem_flatten.2 ⟨y, List.mem_of_mem_take hy, h1⟩)
theorem full_flat (C : Cu) (rs : List (List Ev)) : (C.full rs).flatten = filterE C.f C.t rs.flatten := by
  rw [← all_eq]; unfold Cu.full Cu.all; exact flat_full _
theorem all_flat (C : Cu) (rs : List (List Ev)) : C.all rs = (C.full rs).flatten := by rw [full_flat, all_eq]
/-- with Once: one row at most, of each key the last event -/
theorem lastE_nil_iff (l : List Ev) : lastE l = [] ↔ l = [] := by
  constructor
  · intro h
    cases l with
    | nil => rfl
    | cons e r =>
      exfalso
      have h1 := lastOf_lastE (e :: r) e.key
      rw [h] at h1
      have h2 : lastOf e.key (e :: r) ≠ none := by
        unfold lastOf
        cases lastOf e.key r <;> simp
      exact h2 h1.symm
  · rintro rfl; rfl
theorem once_tell {C : Cu} (h : C.once = true) (rs : List (List Ev)) : C.tell rs = (if filterE C.f C.t rs.flatten = [] then [] else [lastE (filterE C.f C.t rs.flatten)]) := by
  unfold Cu.tell; rw [if_pos h, all_eq]
theorem full_tell {C : Cu} (h : C.once = false) (rs : List (List Ev)) : C.tell rs = C.full rs := by
  unfold Cu.tell; rw [h]; rfl
theorem tell_ne {C : Cu} {rs : List (List Ev)} : ∀ r ∈ C.tell rs, r ≠ [] := by
  intro r hr
  cases ho : C.once with
  | true =>
    rw [once_tell ho] at hr
    split at hr
    · cases hr
    · rename_i h
      simp only [List.mem_singleton] at hr
      subst hr
      exact fun k => h ((lastE_nil_iff _).1 k)
  | false => rw [full_tell ho] at hr; exact (full_mem hr).1
/-- told poll by poll: all from a revision on -/
theorem Live.more {C : Cu} {H : HA} {a a0 : Nat} (h : Live C H a) (ha : a0 ≤ a) (most : Int) :
    filterE C.f C.t ((H.rows.drop a0).take (a - a0)).flatten ++ (C.full (C.got H most)).flatten = filterE C.f C.t ((H.rows.drop a0).take (a + C.n H most - a0)).flatten := by
  rw [full_flat, h.got_eq]
  have e : a + C.n H most - a0 = (a - a0) + C.n H most := by omega
  rw [e, List.take_add, List.drop_drop, List.flatten_append, show a0 + (a - a0) = a by omega]
  unfold filterE
  rw [List.filter_append]
theorem Live.n_min {C : Cu} {H : HA} {a : Nat} (h : Live C H a) {m : Nat} : C.n H (m : Int) = min (H.rows.length - a) m := by
  unfold Cu.n
  rw [h.win]
  have := h.rev
  omega
end Go.Proofs.Ytmbfcdoemcffpaa
namespace Go.Proofs.Ytmbfcdoemcffpaa
open Go.RowKit
set_option linter.unusedVariables false
set_option linter.unusedSimpArgs false

theorem nblk_at {W : World} {o : Obj} {B : Nat} (h : W.heap.size = B) : (W.alloc o).heap[B]? = some o := by subst h; exact new_block W o
theorem four_boxes {w w1 : World} {a b c d : Obj} (hf : Fr [] ((((w.alloc a).alloc b).alloc c).alloc d) w1) :
    w1.heap[w.heap.size]? = some a ∧ w1.heap[w.heap.size + 1]? = some b ∧ w1.heap[w.heap.size + 1 + 1]? = some c ∧ w1.heap[w.heap.size + 1 + 1 + 1]? = some d ∧ Fr [] w w1 := by
  obtain ⟨h1, h2, h3⟩ := boxes4 hf (by simp) (by simp) (by simp)
  exact ⟨h1, h2, h3, hf.keep (nblk_at (by simp)) (by simp), ((((Fr.refl [] w).alloc a).alloc b).alloc c |>.alloc d).trans hf (by simp)⟩
theorem set5_block {w : World} {b : Nat} {a0 a1 a2 a3 a4 : Value} {t : TypeId} {f : Nat × Nat} (h : w.heap[b]? = some (.cells #[a0, a1, a2, a3, a4] t f)) (v0 v1 v2 v3 v4 : Value) :
    (((((w.setCell ⟨b, 0, none⟩ v0).setCell ⟨b, 1, none⟩ v1).setCell ⟨b, 2, none⟩ v2).setCell ⟨b, 3, none⟩ v3).setCell ⟨b, 4, none⟩ v4).heap[b]? = some (.cells #[v0, v1, v2, v3, v4] t f) := by
  have := set_block (set_block (set_block (set_block (set_block h 0 v0) 1 v1) 2 v2) 3 v3) 4 v4
  simpa using this
theorem drew_block {w : World} {p : Nat} {o : Obj} (h : w.heap[p]? = some o) : w.drew.heap[p]? = some o := h
/-- four blocks by letters -/
theorem four_letters {w w1 : World} {a b c d : Obj} (hf : Fr [] ((((w.alloc a).alloc b).alloc c).alloc d) w1) : ∃ p0 p1 p2 p3,
    (p0 = w.heap.size ∧ p1 = w.heap.size + 1 ∧ p2 = w.heap.size + 1 + 1 ∧ p3 = w.heap.size + 1 + 1 + 1) ∧
    (w1.heap[p0]? = some a ∧ w1.heap[p1]? = some b ∧ w1.heap[p2]? = some c ∧ w1.heap[p3]? = some d) ∧
    (w.heap.size ≤ p0 ∧ p0 < p1 ∧ p1 < p2 ∧ p2 < p3 ∧ p3 < w1.heap.size) ∧ Fr [] w w1 := by
  obtain ⟨h1, h2, h3, h4, h5⟩ := four_boxes hf
  have := lt_of_block h4
  exact ⟨_, _, _, _, ⟨rfl, rfl, rfl, rfl⟩, ⟨h1, h2, h3, h4⟩, by omega, h5⟩
theorem row_slice : Try.prog.underlying 28 = some (.slice 30) := Try.underlying28
theorem row_info : (Try.prog.info? 30).map (fun i => (i.zero, i.size, i.bytes)) = some (some (.slice none 0 0), 1, 24) := by kernel_rfl
structure RB (T : List Nat) (wb w : World) (v : Value) (vs : List Value) (rows : List (List Ev)) : Prop where
  lies : Lies w 30 1 v rows.length vs
  new : ∀ k, v.ownBlock = some k → wb.heap.size ≤ k ∧ k ∉ T
  row : ∀ (i : Nat) u r, vs[i]? = some u → rows[i]? = some r → LFar (T ++ v.ownBlock.toList) Ev.cells 4 w u r
section
variable {T T' : List Nat} {wb w w' W : World} {v v' u : Value} {vs : List Value} {rows : List (List Ev)} {r : List Ev}
theorem RB.len (h : RB T wb w v vs rows) : vs.length = rows.length := by have := h.lies.1; omega
theorem RB.nil (T : List Nat) (wb w : World) : RB T wb w (.slice none 0 0) [] [] := ⟨Lies.nil _ _ _, by simp [Value.ownBlock], by simp⟩
theorem RB.keep (h : RB T wb w v vs rows) (hf : Fr [] w w') : RB T wb w' v vs rows :=
  ⟨h.lies.keep hf (by simp), h.new, fun i u r hu hr => (h.row i u r hu hr).keep0 hf⟩
/-- other blocks change -/
theorem RB.keepT (h : RB T wb w v vs rows) (hf : Fr T w w') : RB T wb w' v vs rows :=
  ⟨h.lies.keep hf (fun k hk => (h.new k hk).2), h.new, fun i u r hu hr => (h.row i u r hu hr).keep (hf.mono (fun k hk => Or.inl (List.mem_append.2 (Or.inl hk))))⟩
/-- other blocks are to be kept out of -/
theorem RB.turn (h : RB T wb w v vs rows) (hT : Grow T T' w) : RB T' wb w v vs rows := by
  refine ⟨h.lies, fun k hk => ⟨(h.new k hk).1, fun hm => ?_⟩, fun i u r hu hr => (h.row i u r hu hr).grow (fun k hk => ?_)⟩
  · rcases hT k hm with h1 | h1
    · exact (h.new k hk).2 h1
    · have := h.lies.lt k hk; omega
  · rcases List.mem_append.1 hk with hk | hk
    · rcases hT k hk with h1 | h1
      · exact Or.inl (List.mem_append.2 (Or.inl h1))
      · exact Or.inr h1
    · exact Or.inl (List.mem_append.2 (Or.inr hk))
/-- behind a call that changes T, and may make T another -/
theorem RB.step (h : RB T wb w v vs rows) (hf : Fr T w w') (hT : Grow T T' w) : RB T' wb w' v vs rows := by
  have h1 : RB (T ++ T') wb w v vs rows := h.turn (fun k hk => by
    rcases List.mem_append.1 hk with hk | hk
    · exact Or.inl hk
    · exact hT k hk)
  have h2 := h1.keepT (hf.mono (fun k hk => Or.inl (List.mem_append.2 (Or.inl hk))))
  exact h2.turn (fun k hk => Or.inl (List.mem_append.2 (Or.inr hk)))
/-- behind an append to it -/
theorem RB.app {B : Nat} (h : RB T wb W v vs rows) (hb : wb.heap.size ≤ B) (hBT : B ∉ T) (hB : W.heap.size ≤ B) (hu : LFar (T ++ v.ownBlock.toList) Ev.cells 4 W u r)
    (h1 : Lies w' 30 1 v' (rows.length + 1) (vs ++ [u])) (h2 : Fr v.ownBlock.toList W w') (h3 : ∀ k, v'.ownBlock = some k → v.ownBlock = some k ∨ k = B) : RB T wb w' v' (vs ++ [u]) (rows ++ [r]) := by
  have hl := h.len
  have hg : Grow (T ++ v.ownBlock.toList) (T ++ v'.ownBlock.toList) W := fun k hk => by
    rcases List.mem_append.1 hk with hk | hk
    · exact Or.inl (List.mem_append.2 (Or.inl hk))
    · rcases h3 k (Option.mem_toList.1 hk) with h4 | rfl
      · exact Or.inl (List.mem_append.2 (Or.inr (Option.mem_toList.2 h4)))
      · exact Or.inr hB
  have hf : Fr (T ++ v.ownBlock.toList) W w' := h2.mono (fun k hk => Or.inl (List.mem_append.2 (Or.inr hk)))
  refine ⟨by rw [List.length_append]; exact h1, fun k hk => ?_, fun i a b ha hb => ?_⟩
  · rcases h3 k hk with h4 | rfl
    · exact h.new k h4
    · exact ⟨hb, hBT⟩
  · by_cases hi : i < vs.length
    · rw [List.getElem?_append_left hi] at ha
      rw [List.getElem?_append_left (by omega)] at hb
      exact (h.row i a b ha hb).step hf hg
    · have h5 : i = vs.length := by
        have := (List.getElem?_eq_some_iff.1 ha).1
        simp at this; omega
      subst h5
      rw [List.getElem?_append_right (Nat.le_refl _)] at ha
      rw [List.getElem?_append_right (by omega)] at hb
      simp [hl] at ha hb
      subst ha
      subst hb
      exact hu.step hf hg
theorem RB.fr (h : RB T wb W v vs rows) (hW : Fr [] wb W) (hf : Fr v.ownBlock.toList W w') : Fr [] wb w' :=
  hW.trans hf (fun k hk => Or.inr (h.new k (Option.mem_toList.1 hk)).1)
/-- a row that was there ahead of it -/
theorem RB.far_old (h : RB T wb w v vs rows) {w0 : World} {l : List Ev} (hl : EvIn w0 u l) (h0 : w0.heap.size ≤ wb.heap.size) (hT : ∀ k ∈ T, w0.heap.size ≤ k) (hw : EvIn w u l) : LFar (T ++ v.ownBlock.toList) Ev.cells 4 w u l := by
  refine ⟨hw, fun hn k hk hm => ?_⟩
  obtain ⟨g, off, c, rfl, hlt, _⟩ := LIn.here hl hn
  simp [Value.ownBlock] at hk
  subst hk
  rcases List.mem_append.1 hm with hm | hm
  · have := hT _ hm; omega
  · have := (h.new _ (Option.mem_toList.1 hm)).1; omega
/-- a row that was made later -/
theorem RB.far_new (h : RB T wb w v vs rows) {l : List Ev} (hT : ∀ k ∈ T, k < w.heap.size) (hw : EvIn w' u l) (hn : ∀ k, u.ownBlock = some k → w.heap.size ≤ k) : LFar (T ++ v.ownBlock.toList) Ev.cells 4 w' u l := by
  refine ⟨hw, fun _ k hk hm => ?_⟩
  have := hn k hk
  rcases List.mem_append.1 hm with hm | hm
  · have := hT _ hm; omega
  · have := h.lies.lt _ (Option.mem_toList.1 hm); omega
theorem ev_tag {v : Value} {l : List Ev} {g : Nat} (h : EvAt w v l) (hg : v.ownBlock = some g) : ∃ cur, w.heap[g]? = some (.cells cur 67 (0, 0)) := by
  rcases h.2 with ⟨rfl, _⟩ | ⟨g', off, cap, cur, rfl, hg', _⟩
  · cases hg
  · cases hg; exact ⟨_, hg'⟩
/-- a row of one row -/
theorem RB.one {l : List Ev} (hv : EvAt w v l) (hb : wb.heap.size ≤ w.heap.size) (hT : ∀ k ∈ T, k < w.heap.size) (hd : ∀ k, v.ownBlock = some k → k ∉ T) :
    RB T wb (w.alloc (.cells #[v] 30)) (.slice (some ⟨w.heap.size, 0, none⟩) 1 1) [v] [l] := by
  refine ⟨lies_row w 30 [v] rfl _ rfl, fun k hk => ?_, fun i u r hu hr => ?_⟩
  · simp [Value.ownBlock] at hk
    subst hk
    exact ⟨hb, fun hm => by have := hT _ hm; omega⟩
  · have h0 : i = 0 := by have := (List.getElem?_eq_some_iff.1 hu).1; simp at this; exact this
    subst h0
    simp at hu hr
    subst hu
    subst hr
    refine ⟨(EvAt.read hv).keep0 ((Fr.refl [] w).alloc _), fun _ k hk hm => ?_⟩
    rcases List.mem_append.1 hm with hm | hm
    · exact hd k hk hm
    · have h1 := LAt.lt hv k hk
      simp [Value.ownBlock] at hm
      omega
theorem RB.rowsIn (h : RB T wb w v vs rows) : RowsIn w v rows := by
  refine ⟨vs, h.len, ?_, fun i u r hu hr => (h.row i u r hu hr).lin⟩
  obtain ⟨s, c, h1, h2, h3⟩ := h.lies.form
  refine ⟨s, c, h1, h2, h3, fun hn => ?_⟩
  obtain ⟨g, off, c', hv, h4, h5, h6⟩ := h.lies.here hn
  rw [hv] at h1
  cases h1
  refine ⟨g, off, rfl, h4, fun i u hu => ?_⟩
  have hi : i < rows.length * 1 := by rw [← h.len]; have := (List.getElem?_eq_some_iff.1 hu).1; omega
  rw [(h6 i hi).1, hu]
end
theorem allC_u (vs : List Value) : allC uC vs = vs := by
  unfold allC
  induction vs with
  | nil => rfl
  | cons x r ih => simp only [List.map_cons, List.flatten_cons, uC] at ih ⊢; rw [ih]; rfl
theorem RB.rowsF {T : List Nat} {wb w : World} {v : Value} {vs : List Value} {rows : List (List Ev)} (h : RB T wb w v vs rows) : RowsF T w v rows := by
  refine ⟨vs, h.len, ⟨?_, fun _ k hk => (h.new k hk).2⟩, fun i u r hu hr => ⟨(h.row i u r hu hr).lin, fun hl k hk hm => (h.row i u r hu hr).2 hl k hk (List.mem_append.2 (Or.inl hm))⟩⟩
  refine LAt.read (e := 30) ?_ uC.len
  unfold LAt
  rw [allC_u, h.len]
  exact h.lies
theorem RowsF.rowsIn {S : List Nat} {w : World} {v : Value} {rows : List (List Ev)} (h : RowsF S w v rows) : RowsIn w v rows := by
  obtain ⟨vs, h1, h2, h3⟩ := h
  obtain ⟨a, c, h4, h5, h6, h7⟩ := h2.1
  rw [h1] at h4 h5 h7
  refine ⟨vs, h1, ⟨a, c, h4, h5, h6, fun hn => ?_⟩, fun i u r hu hr => (h3 i u r hu hr).lin⟩
  obtain ⟨g, off, h8, h9, h10⟩ := h7 hn
  refine ⟨g, off, h8, h9, fun i u hu => ?_⟩
  have := h10 i u hu 0 (by decide)
  simpa [uC] using this
theorem RowsF.sub {S T : List Nat} {w : World} {v : Value} {rows : List (List Ev)} (h : RowsF S w v rows) (hT : ∀ k ∈ T, k ∈ S) : RowsF T w v rows := h.grow (fun k hk => Or.inl (hT k hk))
theorem RowsIn.farNil {w : World} {v : Value} {rows : List (List Ev)} (h : RowsIn w v rows) : RowsF [] w v rows := by
  obtain ⟨vs, h1, ⟨a, c, h2, h3, h4, h5⟩, h6⟩ := h
  refine ⟨vs, h1, ⟨⟨a, c, by rw [h1]; exact h2, by rw [h1]; exact h3, h4, fun hn => ?_⟩, by simp⟩, fun i u r hu hr => ⟨h6 i u r hu hr, by simp⟩⟩
  obtain ⟨g, off, h7, h8, h9⟩ := h5 (by omega)
  refine ⟨g, off, h7, h8, fun i u hu j hj => ?_⟩
  obtain rfl : j = 0 := by omega
  simpa [uC] using h9 i u hu
theorem RowsIn.nil (w : World) : RowsIn w (.slice none 0 0) [] := (RB.nil [] w w).rowsIn
theorem RowsIn.one {w : World} {v : Value} {l : List Ev} (hv : EvIn w v l) : RowsIn (w.alloc (.cells #[v] 30)) (.slice (some ⟨w.heap.size, 0, none⟩) 1 1) [l] := by
  refine ⟨[v], rfl, ⟨_, 1, rfl, Nat.le_refl _, by unfold maxLen; omega, fun _ => ⟨w.heap.size, 0, rfl, by simp, fun i u hu => ?_⟩⟩, fun i u r hu hr => ?_⟩
  · have h0 : i = 0 := by have := (List.getElem?_eq_some_iff.1 hu).1; simp at this; exact this
    subst h0
    rw [cell_block (new_block w _)]
    simpa using hu
  · have h0 : i = 0 := by have := (List.getElem?_eq_some_iff.1 hu).1; simp at this; exact this
    subst h0
    simp at hu hr
    subst hu
    subst hr
    exact hv.keep0 ((Fr.refl [] w).alloc _)
theorem RowsF.one {T : List Nat} {w : World} {v : Value} {l : List Ev} (hv : LFar T Ev.cells 4 w v l) (hT : ∀ k ∈ T, k < w.heap.size) : RowsF T (w.alloc (.cells #[v] 30)) (.slice (some ⟨w.heap.size, 0, none⟩) 1 1) [l] := by
  refine ⟨[v], rfl, ⟨⟨_, 1, rfl, Nat.le_refl _, by unfold maxLen; omega, fun _ => ⟨w.heap.size, 0, rfl, by simp, fun i u hu j hj => ?_⟩⟩, fun _ k hk hm => ?_⟩, fun i u r hu hr => ?_⟩
  · have h0 : i = 0 := by have := (List.getElem?_eq_some_iff.1 hu).1; simp at this; exact this
    obtain rfl : j = 0 := by omega
    subst h0
    rw [cell_block (new_block w _)]
    simpa [uC] using hu
  · simp [Value.ownBlock] at hk
    have := hT k hm
    omega
  · have h0 : i = 0 := by have := (List.getElem?_eq_some_iff.1 hu).1; simp at this; exact this
    subst h0
    simp at hu hr
    subst hu
    subst hr
    exact hv.keep0 ((Fr.refl [] w).alloc _)
/-- how much there may be -/
def RFew (rows : List (List Ev)) : Prop := rows.length ≤ many ∧ rows.flatten.length ≤ many
theorem row_len2 {r : List Ev} : ∀ {rows : List (List Ev)}, r ∈ rows → r.length ≤ rows.flatten.length
  | [], h => by cases h
  | x :: s, h => by
    rw [List.flatten_cons, List.length_append]
    rcases List.mem_cons.1 h with rfl | h
    · omega
    · have := row_len2 h; omega
theorem RFew.row {rows : List (List Ev)} (h : RFew rows) {i : Nat} {r : List Ev} (hr : rows[i]? = some r) : r.length ≤ many := Nat.le_trans (row_len2 (List.mem_of_getElem? hr)) h.2
theorem filt_few {rows : List (List Ev)} (h : RFew rows) (f t : ByteArray) : RFew (rows.map (filterE f t)) := by
  refine ⟨by rw [List.length_map]; exact h.1, ?_⟩
  have : (rows.map (filterE f t)).flatten = filterE f t rows.flatten := by unfold filterE; rw [List.filter_flatten]
  rw [this]
  exact Nat.le_trans (List.length_filter_le _ _) h.2
theorem map_step {α β : Type} {f : α → β} {l : List α} {j : Nat} {x : α} (hx : l[j]? = some x) : (l.take (j + 1)).map f = (l.take j).map f ++ [f x] := by
  rw [List.take_add_one, hx]; simp
theorem filt_step2 {α : Type} {p : α → Bool} {l : List α} {j : Nat} {x : α} (hx : l[j]? = some x) : (l.take (j + 1)).filter p = (l.take j).filter p ++ (if p x then [x] else []) := by
  rw [List.take_add_one, hx, List.filter_append]
  simp only [Option.toList_some, List.filter_cons, List.filter_nil]
theorem flat_step {α : Type} {l : List (List α)} {j : Nat} {x : List α} (hx : l[j]? = some x) : (l.take (j + 1)).flatten = (l.take j).flatten ++ x := by
  rw [List.take_add_one, hx, List.flatten_append]; simp
theorem all_step (C : Cu) {rows : List (List Ev)} {j : Nat} {x : List Ev} (hx : rows[j]? = some x) : C.all (rows.take (j + 1)) = C.all (rows.take j) ++ filterE C.f C.t x := by
  unfold Cu.all; rw [map_step hx, List.flatten_append]; simp
theorem full_step (C : Cu) {rows : List (List Ev)} {j : Nat} {x : List Ev} (hx : rows[j]? = some x) : C.full (rows.take (j + 1)) = C.full (rows.take j) ++ (if filterE C.f C.t x = [] then [] else [filterE C.f C.t x]) := by
  unfold Cu.full; rw [map_step hx, List.filter_append]
  congr 1
  cases h : filterE C.f C.t x <;> simp
theorem take_flat (rows : List (List Ev)) (k : Nat) : (rows.take k).flatten.length ≤ rows.flatten.length := by
  conv => rhs; rw [← List.take_append_drop k rows]
  rw [List.flatten_append, List.length_append]; omega
theorem all_few (C : Cu) {rows : List (List Ev)} (h : RFew rows) (k : Nat) : (C.all (rows.take k)).length ≤ 1000000000 := by
  rw [all_eq]
  exact Nat.le_trans (List.length_filter_le _ _) (Nat.le_trans (take_flat rows k) h.2)
theorem full_few (C : Cu) (rows : List (List Ev)) : (C.full rows).length ≤ rows.length := by
  unfold Cu.full
  exact Nat.le_trans (List.length_filter_le _ _) (by rw [List.length_map]; exact Nat.le_refl _)
end Go.Proofs.Ytmbfcdoemcffpaa
