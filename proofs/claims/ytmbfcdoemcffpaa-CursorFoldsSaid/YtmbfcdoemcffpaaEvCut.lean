/- THE DOCUMENT's Cut (impostref05): its contract -/
import Derived.Test.YtmbfcdoemcffpaaEvOne
import Derived.Deep.RegionLaw
namespace Go.Proofs.Ytmbfcdoemcffpaa
open Go.RowKit
set_option linter.unusedVariables false
set_option linter.unusedSimpArgs false

/-- rows of events: a slice of slices -/
def RowsAt (w : World) (v : Value) (rows : List (List Ev)) : Prop := ∃ vs : List Value, Lies w 30 1 v rows.length vs ∧ vs.length = rows.length ∧ ∀ (i : Nat) u r, vs[i]? = some u → rows[i]? = some r → EvAt w u r
theorem RowsAt.keep {w w' : World} {v : Value} {rows : List (List Ev)} (h : RowsAt w v rows) (hf : Fr [] w w') : RowsAt w' v rows := by
  obtain ⟨vs, h1, h2, h3⟩ := h
  exact ⟨vs, h1.keep hf (by simp), h2, fun i u r hu hr => LAt.keep0 (h3 i u r hu hr) hf⟩
/-- rows of one's own: no row's block is another one's, nor the rows' own -/
structure OwnRows (wb w : World) (v : Value) (vs : List Value) (rows : List (List Ev)) : Prop where
  lies : Lies w 30 1 v rows.length vs
  row : ∀ (i : Nat) u r, vs[i]? = some u → rows[i]? = some r → EvAt w u r
  new : ∀ k, v.ownBlock = some k → wb.heap.size ≤ k
  far : ∀ (i : Nat) u k, vs[i]? = some u → u.ownBlock = some k → wb.heap.size ≤ k ∧ v.ownBlock ≠ some k
  apart : ∀ (i j : Nat) u u' k, vs[i]? = some u → vs[j]? = some u' → i ≠ j → u.ownBlock = some k → u'.ownBlock ≠ some k
theorem OwnRows.len {wb w : World} {v : Value} {vs : List Value} {rows : List (List Ev)} (h : OwnRows wb w v vs rows) : vs.length = rows.length := by have := h.lies.1; omega
theorem OwnRows.nil (wb w : World) : OwnRows wb w (.slice none 0 0) [] [] := ⟨Lies.nil _ _ _, by simp, by simp [Value.ownBlock], by simp, by simp⟩
theorem OwnRows.keep {wb w w' : World} {v : Value} {vs : List Value} {rows : List (List Ev)} (h : OwnRows wb w v vs rows) (hf : Fr [] w w') : OwnRows wb w' v vs rows :=
  ⟨h.lies.keep hf (by simp), fun i u r hu hr => LAt.keep0 (h.row i u r hu hr) hf, h.new, h.far, h.apart⟩
/-- a row without events more -/
theorem OwnRows.more {wb W w' : World} {v v' : Value} {vs : List Value} {rows : List (List Ev)} {B : Nat} (h : OwnRows wb W v vs rows) (hB : B = W.heap.size) (hb : wb.heap.size ≤ B)
    (h1 : Lies w' 30 1 v' (rows.length + 1) (vs ++ [.slice none 0 0])) (h2 : Fr v.ownBlock.toList W w') (h3 : ∀ k, v'.ownBlock = some k → v.ownBlock = some k ∨ k = B) : OwnRows wb w' v' (vs ++ [.slice none 0 0]) (rows ++ [[]]) := by
  have hl := h.len
  have get : ∀ (i : Nat) u, (vs ++ [Value.slice none 0 0])[i]? = some u → vs[i]? = some u ∨ (i = vs.length ∧ u = .slice none 0 0) := by
    intro i u hu
    by_cases hi : i < vs.length
    · rw [List.getElem?_append_left hi] at hu; exact Or.inl hu
    · rw [List.getElem?_append_right (by omega)] at hu
      obtain ⟨h4, h5⟩ := List.getElem?_eq_some_iff.1 hu
      simp at h4
      have : i - vs.length = 0 := by omega
      simp [this] at h5
      exact Or.inr ⟨by omega, h5.symm⟩
  have hlt : ∀ (i : Nat) u k, vs[i]? = some u → u.ownBlock = some k → k < W.heap.size := by
    intro i u k hu hk
    have hi : i < rows.length := by rw [← hl]; exact (List.getElem?_eq_some_iff.1 hu).1
    exact (h.row i u _ hu (List.getElem?_eq_getElem hi)).lt k hk
  refine ⟨by rw [List.length_append]; exact h1, ?_, ?_, ?_, ?_⟩
  · intro i u r hu hr
    rcases get i u hu with hu2 | ⟨rfl, rfl⟩
    · have hi : i < rows.length := by rw [← hl]; exact (List.getElem?_eq_some_iff.1 hu2).1
      rw [List.getElem?_append_left hi] at hr
      refine (h.row i u r hu2 hr).keep h2 (fun k hk hm => ?_)
      exact (h.far i u k hu2 hk).2 (by simpa using hm)
    · rw [hl, List.getElem?_append_right (Nat.le_refl _)] at hr
      simp at hr
      subst hr
      exact LAt.nil w'
  · intro k hk
    rcases h3 k hk with h4 | rfl
    · exact h.new k h4
    · exact hb
  · intro i u k hu hk
    rcases get i u hu with hu2 | ⟨rfl, rfl⟩
    · refine ⟨(h.far i u k hu2 hk).1, fun hv => ?_⟩
      rcases h3 k hv with h4 | h4
      · exact (h.far i u k hu2 hk).2 h4
      · have := hlt i u k hu2 hk; omega
    · simp [Value.ownBlock] at hk
  · intro i j u u' k hu hu' hij hk
    rcases get i u hu with hu2 | ⟨rfl, rfl⟩
    · rcases get j u' hu' with hu3 | ⟨rfl, rfl⟩
      · exact h.apart i j u u' k hu2 hu3 hij hk
      · simp [Value.ownBlock]
    · simp [Value.ownBlock] at hk
/-- the row number i has an event more -/
theorem OwnRows.put {wb W w' : World} {g off c : Nat} {vs : List Value} {rows : List (List Ev)} {i B : Nat} {u u' : Value} {r r' : List Ev} (h : OwnRows wb W (.slice (some ⟨g, off, none⟩) rows.length c) vs rows)
    (hu : vs[i]? = some u) (hr : rows[i]? = some r) (hB : W.heap.size ≤ B) (h1 : EvAt w' u' r') (h2 : Fr u.ownBlock.toList W w') (h3 : ∀ k, u'.ownBlock = some k → u.ownBlock = some k ∨ k = B) :
    OwnRows wb (w'.setCell ⟨g, off + i, none⟩ u') (.slice (some ⟨g, off, none⟩) (rows.set i r').length c) (vs.set i u') (rows.set i r') := by
  have hl := h.len
  have hi : i < vs.length := (List.getElem?_eq_some_iff.1 hu).1
  have hgW : g < W.heap.size := h.lies.lt g rfl
  have hgu : u.ownBlock ≠ some g := fun e => (h.far i u g hu e).2 rfl
  have hwb : wb.heap.size ≤ g := h.new g rfl
  have hgu' : ∀ k, u'.ownBlock = some k → k ≠ g := by
    rintro k hk rfl
    rcases h3 k hk with h4 | h4
    · exact hgu h4
    · omega
  have hlt : ∀ (i : Nat) u k, vs[i]? = some u → u.ownBlock = some k → k < W.heap.size := by
    intro i u k hu hk
    have hi : i < rows.length := by rw [← hl]; exact (List.getElem?_eq_some_iff.1 hu).1
    exact (h.row i u _ hu (List.getElem?_eq_getElem hi)).lt k hk
  have hL := (h.lies.keep h2 (fun k hk => by simp [Value.ownBlock] at hk; subst hk; simpa using hgu)).set (j := i) u'
  have get : ∀ (j : Nat) x, (vs.set i u')[j]? = some x → (j = i ∧ x = u') ∨ (j ≠ i ∧ vs[j]? = some x) := by
    intro j x hx
    rw [List.getElem?_set] at hx
    split at hx
    · rename_i e
      cases hx; exact Or.inl ⟨e.symm, rfl⟩
    · rename_i e; exact Or.inr ⟨fun e2 => e e2.symm, hx⟩
  refine ⟨by rw [List.length_set]; exact hL, ?_, ?_, ?_, ?_⟩
  · intro j x q hx hq
    rcases get j x hx with ⟨rfl, rfl⟩ | ⟨hne, hx2⟩
    · rw [List.getElem?_set_self (by omega)] at hq
      cases hq
      exact Lies.other h1 ⟨g, off + j, none⟩ (fun e => hgu' g e rfl) _
    · rw [List.getElem?_set_ne (fun e => hne e.symm)] at hq
      have h5 := h.row j x q hx2 hq
      refine Lies.other (h5.keep h2 (fun k hk hm => ?_)) ⟨g, off + i, none⟩ (fun e => (h.far j x g hx2 e).2 rfl) _
      exact h.apart j i x u k hx2 hu hne hk (by simpa using hm)
  · intro k hk
    simp [Value.ownBlock] at hk; subst hk; exact hwb
  · intro j x k hx hk
    rcases get j x hx with ⟨rfl, rfl⟩ | ⟨hne, hx2⟩
    · refine ⟨?_, fun e => ?_⟩
      · rcases h3 k hk with h4 | rfl
        · exact (h.far j u k hu h4).1
        · omega
      · simp [Value.ownBlock] at e; exact hgu' k hk e.symm
    · exact ⟨(h.far j x k hx2 hk).1, fun e => (h.far j x k hx2 hk).2 (by simpa [Value.ownBlock] using e)⟩
  · intro j j' x x' k hx hx' hjj hk
    rcases get j x hx with ⟨rfl, rfl⟩ | ⟨hne, hx2⟩
    · rcases get j' x' hx' with ⟨rfl, rfl⟩ | ⟨hne', hx2'⟩
      · exact absurd rfl hjj
      · intro hk'
        rcases h3 k hk with h4 | rfl
        · exact h.apart j j' u x' k hu hx2' hjj h4 hk'
        · have := hlt j' x' k hx2' hk'; omega
    · rcases get j' x' hx' with ⟨rfl, rfl⟩ | ⟨hne', hx2'⟩
      · intro hk'
        rcases h3 k hk' with h4 | rfl
        · exact h.apart j j' x u k hx2 hu hjj hk h4
        · have := hlt j x k hx2 hk; omega
      · exact h.apart j j' x x' k hx2 hx2' hjj hk
theorem OwnRows.rows {wb w : World} {v : Value} {vs : List Value} {rows : List (List Ev)} (h : OwnRows wb w v vs rows) : ∃ vs : List Value, Lies w 30 1 v rows.length vs ∧ vs.length = rows.length ∧ ∀ (i : Nat) u r, vs[i]? = some u → rows[i]? = some r → EvAt w u r := ⟨vs, h.lies, h.len, h.row⟩

theorem RowsAt.read {w : World} {v : Value} {rows : List (List Ev)} (h : RowsAt w v rows) : RowsIn w v rows := by
  obtain ⟨vs, h1, h2, h3⟩ := h
  refine ⟨vs, h2, ?_, fun i u r hu hr => (h3 i u r hu hr).read⟩
  obtain ⟨s, c, hv, k1, k2⟩ := h1.form
  refine ⟨s, c, hv, k1, k2, fun hl => ?_⟩
  obtain ⟨g, off, c', hv', h4, h5, h6⟩ := h1.here hl
  rw [hv'] at hv
  cases hv
  exact ⟨g, off, rfl, h4, fun i u hu => by rw [(h6 i (by have := (List.getElem?_eq_some_iff.1 hu).1; omega)).1, hu]⟩
theorem cut_last (l : List Ev) (hl : l ≠ []) : ∃ r, (cutE l).getLast? = some r ∧ r.getLast? = l.getLast? := by
  have hf := cut_flat l
  have hne := cut_ne l
  cases hg : (cutE l).getLast? with
  | none =>
    rw [List.getLast?_eq_none_iff] at hg
    rw [hg] at hf; exact absurd hf.symm hl
  | some r =>
    refine ⟨r, rfl, ?_⟩
    have hd := drop_last hg
    have hr : r ≠ [] := hne r (by rw [hd]; simp)
    rw [hd] at hf
    simp only [List.flatten_append, List.flatten_cons, List.flatten_nil, List.append_nil] at hf
    rw [← hf, List.getLast?_append]
    cases hrr : r.getLast? with
    | none => rw [List.getLast?_eq_none_iff] at hrr; exact absurd hrr hr
    | some z => rfl
/-- a new row, or the last one -/
def newRow (l : List Ev) (j : Nat) (x : Ev) : Bool := match l[j - 1]? with
  | some p => decide (j = 0) || !decide (x.rev = p.rev)
  | none => true
theorem cutE_step {l : List Ev} {j : Nat} {x : Ev} (hx : l[j]? = some x) : ∃ init r, (if newRow l j x then cutE (l.take j) ++ [[]] else cutE (l.take j)) = init ++ [r] ∧ cutE (l.take (j + 1)) = init ++ [r ++ [x]] := by
  have hc : cutE (l.take (j + 1)) = cutS (cutE (l.take j)) x := by rw [take_snoc hx]; unfold cutE; rw [List.foldl_append]; rfl
  rw [hc]
  have hj : j < l.length := (List.getElem?_eq_some_iff.1 hx).1
  cases j with
  | zero =>
    have : newRow l 0 x = true := by unfold newRow; cases l[0 - 1]? <;> simp
    rw [this]
    exact ⟨[], [], rfl, rfl⟩
  | succ i =>
    obtain ⟨p, hp⟩ : ∃ p, l[i]? = some p := ⟨_, List.getElem?_eq_getElem (by omega)⟩
    have ht : l.take (i + 1) = l.take i ++ [p] := take_snoc hp
    obtain ⟨r, hr1, hr2⟩ := cut_last (l.take (i + 1)) (by rw [ht]; simp)
    rw [ht, List.getLast?_append] at hr2
    have hr2 : r.getLast? = some p := by simpa using hr2
    have hd := drop_last hr1
    have hn : newRow l (i + 1) x = !decide (x.rev = p.rev) := by
      unfold newRow
      rw [Nat.add_sub_cancel, hp]
      simp
    have hs : sameRev r x = decide (x.rev = p.rev) := by
      unfold sameRev; rw [hr2]
      show decide (p.rev = x.rev) = decide (x.rev = p.rev)
      rw [decide_eq_decide]; exact ⟨Eq.symm, Eq.symm⟩
    unfold cutS
    rw [hr1]
    dsimp only
    rw [hn, hs]
    by_cases he : x.rev = p.rev
    · simp only [he, decide_true, Bool.not_true, Bool.false_eq_true, if_false, if_true]
      exact ⟨_, r, hd, rfl⟩
    · simp only [he, decide_false, Bool.not_false, if_true, Bool.false_eq_true, if_false]
      exact ⟨cutE (l.take (i + 1)), [], rfl, rfl⟩
theorem cutE_rlen {l : List Ev} {j : Nat} {init : List (List Ev)} {r : List Ev} (h : cutE (l.take j) ++ [[]] = init ++ [r] ∨ cutE (l.take j) = init ++ [r]) : r.length ≤ j ∧ init.length ≤ j := by
  have hc := cut_flat (l.take j)
  have hl := cut_len (l.take j)
  rw [List.length_take] at hl
  have h1 : (init ++ [r]).flatten = l.take j := by rcases h with h | h <;> rw [← h] <;> simp [hc]
  have h2 := congrArg List.length h1
  rw [List.length_take] at h2
  simp only [List.flatten_append, List.flatten_cons, List.flatten_nil, List.append_nil, List.length_append] at h2
  refine ⟨by omega, ?_⟩
  rcases h with h | h
  · have h3 := congrArg List.length h; simp at h3; omega
  · have h3 := congrArg List.length h; simp at h3; omega
theorem Lies.blk {w : World} {e : TypeId} {sz n g off c : Nat} {xs : List Value} (h : Lies w e sz (.slice (some ⟨g, off, none⟩) n c) n xs) : ∃ cur, w.heap[g]? = some (.cells cur e (0, 0)) := by
  rcases h.2 with ⟨hv, _⟩ | ⟨g', o', cap, cur, hv, hg, _⟩
  · cases hv
  · simp only [Value.slice.injEq, Option.some.injEq, Addr.mk.injEq, and_true, true_and] at hv
    obtain ⟨⟨rfl, rfl⟩, rfl⟩ := hv
    exact ⟨cur, hg⟩
theorem rows_info : (Try.prog.info? 30).map (fun i => (i.zero, i.size, i.bytes)) = some (some (.slice none 0 0), 1, 24) := by kernel_rfl
theorem rows_slice : Try.prog.underlying 28 = some (.slice 30) := Try.underlying28
theorem cut_put {w W w2 : World} {g3 o3 c3 nn q c5 c7 j : Nat} {vs9 : List Value} {init : List (List Ev)} {r l : List Ev} {x : Ev} {s5 s7 : Option Addr}
    (HR : OwnRows w W (.slice (some ⟨g3, o3, none⟩) nn c3) vs9 (init ++ [r])) (HNQ : nn = (init ++ [r]).length ∧ q = init.length ∧ nn = q + 1) (hu : vs9[q]? = some (.slice s5 r.length c5)) (hr : (init ++ [r])[q]? = some r)
    (HEV : EvAt w2 (.slice s7 (r.length + 1) c7) (r ++ [x])) (HF2 : Fr (Value.slice s5 r.length c5).ownBlock.toList W w2)
    (HN2 : ∀ k, (Value.slice s7 (r.length + 1) c7).ownBlock = some k → (Value.slice s5 r.length c5).ownBlock = some k ∨ k = W.heap.size + 1) (HG : Fr [] w W) (HCUT : cutE (l.take (j + 1)) = init ++ [r ++ [x]]) :
    OwnRows w (w2.setCell ⟨g3, o3 + q, none⟩ (.slice s7 (r.length + 1) c7)) (.slice (some ⟨g3, o3, none⟩) nn c3) (vs9.set q (.slice s7 (r.length + 1) c7)) (cutE (l.take (j + 1))) ∧ Fr [] w (w2.setCell ⟨g3, o3 + q, none⟩ (.slice s7 (r.length + 1) c7)) := by
  have hset : (init ++ [r]).set q (r ++ [x]) = init ++ [r ++ [x]] := by rw [HNQ.2.1]; simp
  have hln : (init ++ [r ++ [x]]).length = nn := by rw [HNQ.1]; simp
  have hg9 : w.heap.size ≤ g3 := HR.new g3 rfl
  have hf := (HG.trans HF2 (fun k hk => Or.inr ((HR.far q _ k hu (by simpa using hk)).1))).setCell (p := ⟨g3, o3 + q, none⟩) (Or.inr hg9) (.slice s7 (r.length + 1) c7)
  have hRR := HR
  rw [HNQ.1] at hRR
  have hp := OwnRows.put (B := W.heap.size + 1) hRR hu hr (by omega) HEV HF2 HN2
  rw [hset, hln] at hp
  rw [HCUT]
  exact ⟨hp, hf⟩
end Go.Proofs.Ytmbfcdoemcffpaa
