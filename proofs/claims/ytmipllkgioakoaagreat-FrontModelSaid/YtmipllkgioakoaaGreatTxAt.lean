/- REQUESTS, AND WHAT TRANSACTIONS DO, PLAINLY; its laws. No memory here.
REQUESTS IN MEMORY: compares, strings, a request's slices -/
import Derived.Test.YtmipllkgioakoaaGreatHs
import Derived.Test.YtmipllkgioakoaaGreatAway
namespace Go.Proofs.YtmipllkgioakoaaGreat
open Go.RowKit
set_option linter.unusedVariables false
set_option linter.unusedSimpArgs false

/-- a compare -/
structure Cm where
  kind : Int
  key : ByteArray
  val : ByteArray
  rev : Int
  wf : key.size ≤ maxLen ∧ val.size ≤ maxLen
/-- a request -/
structure Rq where
  kind : Int
  f : ByteArray
  t : ByteArray
  rev : Int
  cmps : List Cm
  thn : List Od
  els : List Od
/-- does a compare hold? -/
def oneC (m : List Kv) (c : Cm) : Bool :=
  if c.kind = 1 then (match getK c.key m with | some x => decide (x.val = c.val) | none => false)
  else if c.kind = 2 then (if c.rev = 0 then !(getK c.key m).isSome else (match getK c.key m with | some x => decide (x.rev = c.rev) | none => false))
  else false
def holdsC (m : List Kv) (l : List Cm) : Bool := l.all (oneC m)
def keepO (m : List Kv) (o : Od) : Bool := (getK o.key m).isSome || !o.del
def planL (m : List Kv) (q : Rq) : List Od := (if holdsC m q.cmps then q.thn else q.els).filter (keepO m)
/-- may a request be? -/
def opB (o : Od) : Bool := mayB o.key.toList && decide (o.val.size ≤ 8) && !(o.del && decide (0 < o.val.size))
def opsB (l : List Od) : Bool := l.all opB && decide ((l.map Od.key).Nodup) && decide (l.length ≤ 4)
def cmB (c : Cm) : Bool := mayB c.key.toList && decide (c.kind = 1 ∨ c.kind = 2) && decide (c.val.size ≤ 8) && decide (0 ≤ c.rev)
def cmsB (l : List Cm) : Bool := l.all cmB && decide (l.length ≤ 4)
def mayQ (q : Rq) : Bool :=
  if q.kind = 1 then cmsB q.cmps && opsB q.thn && opsB q.els
  else if q.kind = 2 then mayRangeB q.f.toList q.t.toList && decide (0 ≤ q.rev)
  else if q.kind = 3 then decide (0 ≤ q.rev) else false
def mayE (q : Rq) : Int := if mayQ q then 0 else 1
/-- the keys of a request -/
def keysL (q : Rq) : List ByteArray := q.cmps.map Cm.key ++ q.thn.map Od.key ++ q.els.map Od.key
structure KeysOk (q : Rq) (ks : List ByteArray) : Prop where
  rise : ks.Pairwise (fun a b => kl a b = true)
  mem : ∀ k, k ∈ ks ↔ k ∈ keysL q
theorem oneC_ext {m m' : List Kv} {c : Cm} (h : getK c.key m = getK c.key m') : oneC m c = oneC m' c := by unfold oneC; rw [h]
theorem holds_ext {m m' : List Kv} {l : List Cm} (h : ∀ c ∈ l, getK c.key m = getK c.key m') : holdsC m l = holdsC m' l := by
  unfold holdsC
  rw [Bool.eq_iff_iff, List.all_eq_true, List.all_eq_true]
  exact ⟨fun g c hc => by rw [← oneC_ext (h c hc)]; exact g c hc, fun g c hc => by rw [oneC_ext (h c hc)]; exact g c hc⟩
/-- what a transaction does hangs on its own keys -/
theorem plan_ext {m m' : List Kv} {q : Rq} (h : ∀ k ∈ keysL q, getK k m = getK k m') : holdsC m q.cmps = holdsC m' q.cmps ∧ planL m q = planL m' q := by
  have h1 : holdsC m q.cmps = holdsC m' q.cmps := holds_ext fun c hc => h _ (by unfold keysL; simp; exact Or.inl ⟨c, hc, rfl⟩)
  refine ⟨h1, ?_⟩
  unfold planL
  rw [h1]
  refine List.filter_congr fun o ho => ?_
  unfold keepO
  rw [h o.key ?_]
  unfold keysL
  split at ho
  · simp; exact Or.inr (Or.inl ⟨o, ho, rfl⟩)
  · simp; exact Or.inr (Or.inr ⟨o, ho, rfl⟩)
theorem plan_sub {m : List Kv} {q : Rq} : ∀ o ∈ planL m q, keepO m o = true ∧ (o ∈ q.thn ∨ o ∈ q.els) := by
  intro o ho
  unfold planL at ho
  obtain ⟨h1, h2⟩ := List.mem_filter.1 ho
  refine ⟨h2, ?_⟩
  split at h1
  · exact Or.inl h1
  · exact Or.inr h1
/-- what there is of some keys -/
def ownK (m : List Kv) (ks : List ByteArray) : List Kv := ks.filterMap (fun k => getK k m)
theorem getK_own {m : List Kv} {ks : List ByteArray} {k : ByteArray} (hk : k ∈ ks) : getK k (ownK m ks) = getK k m := by
  induction ks with
  | nil => cases hk
  | cons a r ih =>
    unfold ownK
    rw [List.filterMap_cons]
    cases ha : getK a m with
    | none =>
      show getK k (ownK m r) = _
      rcases List.mem_cons.1 hk with rfl | hk
      · rw [ha, getK_none]
        intro x hx hxk
        unfold ownK at hx
        obtain ⟨b, hb, hbx⟩ := List.mem_filterMap.1 hx
        have := (getK_some hbx).2
        rw [hxk] at this
        rw [← this, ha] at hbx; cases hbx
      · exact ih hk
    | some x =>
      obtain ⟨h1, h2⟩ := getK_some ha
      by_cases hak : a = k
      · subst hak
        rw [ha]
        unfold getK
        rw [List.find?_cons_of_pos (by simpa using h2)]
      · have hk' : k ∈ r := by
          rcases List.mem_cons.1 hk with rfl | hk
          · exact absurd rfl hak
          · exact hk
        show (x :: ownK m r).find? (fun x => decide (x.key = k)) = _
        rw [List.find?_cons_of_neg (by simp [h2, hak])]
        exact ih hk'
theorem srt_own {m : List Kv} {ks : List ByteArray} (h : ks.Pairwise (fun a b => kl a b = true)) : Srt Kv.key (ownK m ks) := by
  unfold ownK Srt
  rw [List.pairwise_filterMap]
  refine h.imp fun {a b} hab x hx y hy => ?_
  rw [(getK_some hx).2, (getK_some hy).2]
  exact hab
theorem own_snoc (m : List Kv) (ks : List ByteArray) (k : ByteArray) : ownK m (ks ++ [k]) = ownK m ks ++ (getK k m).toList := by
  unfold ownK
  rw [List.filterMap_append]
  cases h : getK k m <;> simp [h]
theorem own_len (m : List Kv) (ks : List ByteArray) : (ownK m ks).length ≤ ks.length := List.length_filterMap_le _ _
theorem keysOk_own {m : List Kv} {q : Rq} {ks : List ByteArray} (h : KeysOk q ks) : holdsC m q.cmps = holdsC (ownK m ks) q.cmps ∧ planL m q = planL (ownK m ks) q :=
  plan_ext fun k hk => (getK_own ((h.mem k).2 hk)).symm
theorem rise_len {ks : List ByteArray} (h : ks.Pairwise (fun a b => kl a b = true)) {j : Nat} {a b : ByteArray} (ha : ks[j]? = some a) (hb : ks[j + 1]? = some b) : kl a b = true := by
  obtain ⟨h1, rfl⟩ := List.getElem?_eq_some_iff.1 ha
  obtain ⟨h2, rfl⟩ := List.getElem?_eq_some_iff.1 hb
  exact List.pairwise_iff_getElem.1 h j (j + 1) h1 h2 (by omega)
/-- all compares hold just if each does -/
theorem holds_one (m : List Kv) (c : Cm) : holdsC m [c] = oneC m c := by unfold holdsC; simp
theorem holds_take {m : List Kv} {l : List Cm} {j : Nat} {c : Cm} (hc : l[j]? = some c) : holdsC m (l.take (j + 1)) = (holdsC m (l.take j) && oneC m c) := by
  unfold holdsC
  rw [List.take_add_one, hc, List.all_append]; simp
/-- the ops that count, of those that are planned -/
theorem cnt_plan {m : List Kv} : ∀ {l : List Od}, (l.map Od.key).Nodup → (∀ o ∈ l, keepO m o = true) → countO m l = l
  | [], _, _ => rfl
  | o :: r, hn, hk => by
    rw [List.map_cons, List.nodup_cons] at hn
    have h1 : cntB m o r = true := by
      unfold cntB
      have h2 : r.any (fun y => decide (y.key = o.key)) = false := by
        rw [List.any_eq_false]
        intro y hy hye
        exact hn.1 (List.mem_map.2 ⟨y, hy, by simpa using hye⟩)
      have h3 := hk o (by simp)
      unfold keepO at h3
      rw [h2, h3]; rfl
    rw [countO, if_pos h1, cnt_plan hn.2 (fun x hx => hk x (List.mem_cons_of_mem _ hx))]
theorem plan_nodup {m : List Kv} {q : Rq} (h : mayQ q = true) (hk : q.kind = 1) : ((planL m q).map Od.key).Nodup ∧ (planL m q).length ≤ 4 := by
  unfold mayQ at h
  rw [if_pos hk] at h
  simp only [Bool.and_eq_true, opsB, decide_eq_true_eq] at h
  have key : ∀ l : List Od, (l.map Od.key).Nodup → ((l.filter (keepO m)).map Od.key).Nodup := fun l hl => hl.sublist ((List.filter_sublist).map _)
  unfold planL
  split
  · exact ⟨key _ h.1.2.1.2, Nat.le_trans (List.length_filter_le _ _) h.1.2.2⟩
  · exact ⟨key _ h.2.1.2, Nat.le_trans (List.length_filter_le _ _) h.2.2⟩
/-- done, as many events come of it -/
theorem told_plan {rows : List (List Ev)} {q : Rq} (h : mayQ q = true) (hk : q.kind = 1) : (rowOf rows (planL (mapN rows rows.length) q)).length = (planL (mapN rows rows.length) q).length := by
  unfold rowOf
  rw [List.length_map, cnt_plan (plan_nodup h hk).1 (fun o ho => (plan_sub o ho).1)]
end Go.Proofs.YtmipllkgioakoaaGreat
namespace Go.Proofs.YtmipllkgioakoaaGreat
open Go.RowKit
set_option linter.unusedVariables false
set_option linter.unusedSimpArgs false

def Cm.cells (c : Cm) : List Value := [.int .i64 c.kind, .string c.key, .string c.val, .int .i64 c.rev]
theorem Cm.clen (c : Cm) : c.cells.length = 4 := rfl
theorem Cm.cone (x : Cm) : ∀ y ∈ x.cells, y.oneCell' = true := by
  intro y hy
  simp only [Cm.cells, List.mem_cons, List.not_mem_nil, or_false] at hy
  rcases hy with rfl | rfl | rfl | rfl <;> rfl
theorem cm_slice : Tryz.prog.underlying 32 = some (.slice 126) := Tryz.underlying32
theorem cm_info : (Tryz.prog.info? 126).map (fun i => (i.zero, i.size, i.bytes)) = some (some (.agg #[.int .i64 0, .string ⟨#[]⟩, .string ⟨#[]⟩, .int .i64 0]), 4, 48) := by kernel_rfl
def CmIn (w : World) (v : Value) (l : List Cm) : Prop := LIn Cm.cells 4 w v l
structure CmC (w : World) (g off : Nat) (x : Cm) : Prop where
  c0 : w.cell? ⟨g, off, none⟩ = some (.int .i64 x.kind)
  c1 : w.cell? ⟨g, off + 1, none⟩ = some (.string x.key)
  c2 : w.cell? ⟨g, off + 2, none⟩ = some (.string x.val)
  c3 : w.cell? ⟨g, off + 3, none⟩ = some (.int .i64 x.rev)
theorem CmIn.here {w : World} {v : Value} {l : List Cm} (h : CmIn w v l) (hn : 0 < l.length) : ∃ g off c, v = .slice (some ⟨g, off, none⟩) l.length c ∧ g < w.heap.size ∧ l.length ≤ c ∧ ∀ i x, l[i]? = some x → CmC w g (off + i * 4) x := by
  obtain ⟨g, off, c, hv, h1, h2, h3⟩ := LIn.here h hn
  refine ⟨g, off, c, hv, h1, h2, fun i x hx => ?_⟩
  have q := h3 i x hx
  have e0 := q 0 (by decide)
  have e1 := q 1 (by decide)
  have e2 := q 2 (by decide)
  have e3 := q 3 (by decide)
  rw [← Nat.add_assoc] at e0 e1 e2 e3
  exact ⟨e0, e1, e2, e3⟩
/-- strings that are read -/
def stC (s : ByteArray) : List Value := [.string s]
theorem stC_len (s : ByteArray) : (stC s).length = 1 := rfl
theorem stC_one (x : ByteArray) : ∀ y ∈ stC x, y.oneCell' = true := by
  intro y hy
  simp only [stC, List.mem_singleton] at hy
  subst hy; rfl
def StIn (w : World) (v : Value) (l : List ByteArray) : Prop := LIn stC 1 w v l
theorem StIn.here {w : World} {v : Value} {l : List ByteArray} (h : StIn w v l) (hn : 0 < l.length) : ∃ g off c, v = .slice (some ⟨g, off, none⟩) l.length c ∧ g < w.heap.size ∧ l.length ≤ c ∧ ∀ i x, l[i]? = some x → w.cell? ⟨g, off + i, none⟩ = some (.string x) := by
  obtain ⟨g, off, c, hv, h1, h2, h3⟩ := LIn.here h hn
  refine ⟨g, off, c, hv, h1, h2, fun i x hx => ?_⟩
  have q := h3 i x hx 0 (by decide)
  simpa [stC] using q
/-- a request's slices -/
structure RqIn (w : World) (q : Rq) (cv tv ev : Value) : Prop where
  c : CmIn w cv q.cmps
  t : OdIn w tv q.thn
  e : OdIn w ev q.els
  wf : q.f.size ≤ maxLen ∧ q.t.size ≤ maxLen
theorem RqIn.keep0 {w w' : World} {q : Rq} {cv tv ev : Value} (h : RqIn w q cv tv ev) (hf : Fr [] w w') : RqIn w' q cv tv ev := ⟨LIn.keep0 h.c hf, LIn.keep0 h.t hf, LIn.keep0 h.e hf, h.wf⟩
theorem rq_info : (Tryz.prog.info? 35).map (fun i => (i.zero, i.size, i.bytes)) = some (some (.agg #[.int .i64 0, .string ⟨#[]⟩, .string ⟨#[]⟩, .int .i64 0, .slice none 0 0, .slice none 0 0, .slice none 0 0]), 7, 120) := by kernel_rfl
def rqA (q : Rq) (cv tv ev : Value) : Value := .agg #[.int .i64 q.kind, .string q.f, .string q.t, .int .i64 q.rev, cv, tv, ev]
def rqB (q : Rq) (cv tv ev : Value) : Obj := .cells #[.int .i64 q.kind, .string q.f, .string q.t, .int .i64 q.rev, cv, tv, ev] 35
/-- the short requests -/
def putQ (k v : ByteArray) (wf : k.size ≤ maxLen ∧ v.size ≤ maxLen) : Rq := ⟨1, ⟨#[]⟩, ⟨#[]⟩, 0, [], [⟨k, v, false, wf⟩], []⟩
def delQ (k : ByteArray) (wf : k.size ≤ maxLen) : Rq := ⟨1, ⟨#[]⟩, ⟨#[]⟩, 0, [], [⟨k, ⟨#[]⟩, true, wf, by decide⟩], []⟩
def swapQ (k a b : ByteArray) (wf : k.size ≤ maxLen) (wa : a.size ≤ maxLen) (wb : b.size ≤ maxLen) : Rq := ⟨1, ⟨#[]⟩, ⟨#[]⟩, 0, [⟨1, k, a, 0, wf, wa⟩], [⟨k, b, false, wf, wb⟩], []⟩
end Go.Proofs.YtmipllkgioakoaaGreat
