/- A PUT, AND TWO SWAPS BEHIND IT, PLAINLY: what a model is then; one key's range. No memory here. -/
import Derived.Test.YtlklmmpblgcaoaaMdAt
namespace Go.Proofs.Ytlklmmpblgcaoaa
open Go.RowKit
set_option linter.unusedVariables false
set_option linter.unusedSimpArgs false

theorem ms_now (H : HA) (o : Od) : mapN (H.app [o]).rows (H.app [o]).rows.length = foldK (mapN H.rows H.rows.length) (H.told [o]) := mapN_new H.rows (rowOf H.rows [o])
theorem ms_put (H : HA) (o : Od) (hd : o.del = false) : getK o.key (mapN (H.app [o]).rows (H.app [o]).rows.length) = some ⟨o.key, o.val, H.rows.length + 1, o.wf⟩ := by
  rw [getK_srt (srt_mapN _ _)]
  refine ⟨?_, rfl⟩
  rw [ms_now]
  unfold HA.told
  rw [rowOf_one, hd]
  simp only [Bool.not_false, Bool.or_true, if_true]
  show _ ∈ oneK _ _
  rw [mem_oneK]
  refine Or.inr ⟨hd, ?_⟩
  unfold Od.ev Ev.kv
  simp [hd]
theorem ms_len (H : HA) (o : Od) (hd : o.del = false) : (H.app [o]).rows.length = H.rows.length + 1 := by
  unfold HA.app putR
  dsimp only
  rw [rowOf_one, hd]
  simp
/-- the request that compacts -/
def cq (r : Nat) : Rq := ⟨3, ⟨#[]⟩, ⟨#[]⟩, r, [], [], []⟩
theorem cq_may (r : Nat) : mayQ (cq r) = true := by
  unfold mayQ
  rw [if_neg (show ¬ (cq r).kind = 1 by show ¬ ((3 : Int) = 1); decide), if_neg (show ¬ (cq r).kind = 2 by show ¬ ((3 : Int) = 2); decide), if_pos (show (cq r).kind = 3 from rfl)]
  show decide (0 ≤ (r : Int)) = true
  simp
theorem cq_next (M : MA) (hh : M.H.hor ≤ M.H.rows.length) : (M.next (cq M.H.rows.length)).H.rows = M.H.rows ∧ (M.next (cq M.H.rows.length)).H.hor = M.H.rows.length := by
  have hc : M.H.comE (M.H.rows.length : Int) = 0 := by unfold HA.comE; rw [if_neg (by omega), if_neg (by omega)]
  have : (M.next (cq M.H.rows.length)).H = M.H.com (M.H.rows.length : Int) := by
    unfold MA.next
    rw [if_pos (cq_may _), if_neg (show ¬ (cq M.H.rows.length).kind = 2 by show ¬ ((3 : Int) = 2); decide), if_pos (show (cq M.H.rows.length).kind = 3 from rfl)]
    rfl
  rw [this]
  unfold HA.com
  rw [if_pos hc]
  exact ⟨rfl, by show max M.H.hor ((M.H.rows.length : Int).toNat) = _; simp; omega⟩
/-- a transaction of one put -/
theorem one_put {M : MA} {q : Rq} {o : Od} (hm : mayQ q = true) (hk : q.kind = 1) (hd : o.del = false) (hp : planL M.map q = [o]) (hr : M.H.rows.length < 1000) (hg : M.H.rows.length + 1 ≤ M.H.hor + 16) :
    M.err q = 0 ∧ (M.next q).H.rows.length = M.H.rows.length + 1 ∧ (M.next q).H.hor = M.H.hor ∧ getK o.key (M.next q).map = some ⟨o.key, o.val, M.H.rows.length + 1, o.wf⟩ := by
  have hc : M.chE q = 0 := by unfold MA.chE; rw [hp, if_neg (by simp), if_neg (by omega), if_neg (by omega)]
  have hn : (M.next q).H = M.H.app [o] := by
    unfold MA.next
    rw [if_pos hm, if_neg (by rw [hk]; decide), if_neg (by rw [hk]; decide), if_pos hc, hp]
  have he : M.err q = 0 := by
    unfold MA.err
    rw [if_pos hm, if_neg (by rw [hk]; decide), if_neg (by rw [hk]; decide), hc]
  refine ⟨he, ?_, ?_, ?_⟩
  · rw [hn]; exact ms_len _ _ hd
  · rw [hn]; rfl
  · unfold MA.map
    rw [hn]; exact ms_put _ _ hd
theorem ms_ok {M : MA} {q : Rq} (hm : mayQ q = true) (hk : q.kind = 1) (he : M.err q = 0) : M.ok q = holdsC M.map q.cmps := by
  unfold MA.ok
  rw [decide_eq_true ⟨hm, hk, he⟩, Bool.true_and]
theorem ms_tl (k : ByteArray) : k.toList.length = k.size := by rw [ByteArray.toList_eq, Array.length_toList]; rfl
theorem ms_may_put {k v : ByteArray} (wf : k.size ≤ maxLen ∧ v.size ≤ maxLen) (h1 : 1 ≤ k.size) (h2 : k.size ≤ 8) (h3 : v.size ≤ 8) : mayQ (putQ k v wf) = true := by
  have hm : mayB k.toList = true := by unfold mayB; rw [ms_tl]; simp; omega
  simp [mayQ, putQ, cmsB, opsB, opB, hm, h3]
theorem ms_may_swap {k a b : ByteArray} (wf : k.size ≤ maxLen) (wa : a.size ≤ maxLen) (wb : b.size ≤ maxLen) (h1 : 1 ≤ k.size) (h2 : k.size ≤ 8) (h3 : a.size ≤ 8) (h4 : b.size ≤ 8) : mayQ (swapQ k a b wf wa wb) = true := by
  have hm : mayB k.toList = true := by unfold mayB; rw [ms_tl]; simp; omega
  simp [mayQ, swapQ, cmsB, cmB, opsB, opB, hm, h3, h4]
/-- the put -/
theorem ms_one {M : MA} {k v : ByteArray} (wf : k.size ≤ maxLen ∧ v.size ≤ maxLen) (h1 : 1 ≤ k.size) (h2 : k.size ≤ 8) (h3 : v.size ≤ 8) (hr : M.H.rows.length < 1000) (hg : M.H.rows.length + 1 ≤ M.H.hor + 16) :
    M.err (putQ k v wf) = 0 ∧ M.ok (putQ k v wf) = true ∧ (M.next (putQ k v wf)).H.rows.length = M.H.rows.length + 1 ∧ (M.next (putQ k v wf)).H.hor = M.H.hor ∧ getK k (M.next (putQ k v wf)).map = some ⟨k, v, M.H.rows.length + 1, wf⟩ := by
  have hm := ms_may_put wf h1 h2 h3
  have hp : planL M.map (putQ k v wf) = [⟨k, v, false, wf⟩] := by
    have h : holdsC M.map (putQ k v wf).cmps = true := rfl
    unfold planL; rw [h]
    simp [putQ, keepO]
  obtain ⟨e1, e2, e3, e4⟩ := one_put (M := M) hm rfl rfl hp hr hg
  exact ⟨e1, by rw [ms_ok hm rfl e1]; rfl, e2, e3, e4⟩
theorem ms_holds {M : MA} {k a b : ByteArray} (wf : k.size ≤ maxLen) (wa : a.size ≤ maxLen) (wb : b.size ≤ maxLen) {x : Kv} (hx : getK k M.map = some x) : holdsC M.map (swapQ k a b wf wa wb).cmps = decide (x.val = a) := by
  show holdsC M.map [_] = _
  rw [holds_one]
  unfold oneC
  simp only [swapQ]
  rw [hx]; simp
/-- a swap that holds -/
theorem ms_two {M : MA} {k a b : ByteArray} (wf : k.size ≤ maxLen) (wa : a.size ≤ maxLen) (wb : b.size ≤ maxLen) (h1 : 1 ≤ k.size) (h2 : k.size ≤ 8) (h3 : a.size ≤ 8) (h4 : b.size ≤ 8) {x : Kv} (hx : getK k M.map = some x) (hv : x.val = a) (hr : M.H.rows.length < 1000) (hg : M.H.rows.length + 1 ≤ M.H.hor + 16) :
    M.err (swapQ k a b wf wa wb) = 0 ∧ M.ok (swapQ k a b wf wa wb) = true ∧ (M.next (swapQ k a b wf wa wb)).H.rows.length = M.H.rows.length + 1 ∧ (M.next (swapQ k a b wf wa wb)).H.hor = M.H.hor ∧ getK k (M.next (swapQ k a b wf wa wb)).map = some ⟨k, b, M.H.rows.length + 1, wf, wb⟩ := by
  have hm := ms_may_swap wf wa wb h1 h2 h3 h4
  have hh : holdsC M.map (swapQ k a b wf wa wb).cmps = true := by rw [ms_holds wf wa wb hx]; simp [hv]
  have hp : planL M.map (swapQ k a b wf wa wb) = [⟨k, b, false, wf, wb⟩] := by
    unfold planL; rw [hh]
    simp [swapQ, keepO]
  obtain ⟨e1, e2, e3, e4⟩ := one_put (M := M) hm rfl rfl hp hr hg
  exact ⟨e1, by rw [ms_ok hm rfl e1, hh], e2, e3, e4⟩
/-- a swap that doesn't -/
theorem ms_three {M : MA} {k a b : ByteArray} (wf : k.size ≤ maxLen) (wa : a.size ≤ maxLen) (wb : b.size ≤ maxLen) (h1 : 1 ≤ k.size) (h2 : k.size ≤ 8) (h3 : a.size ≤ 8) (h4 : b.size ≤ 8) {x : Kv} (hx : getK k M.map = some x) (hv : x.val ≠ a) :
    M.err (swapQ k a b wf wa wb) = 0 ∧ M.ok (swapQ k a b wf wa wb) = false ∧ (M.next (swapQ k a b wf wa wb)).H = M.H := by
  have hm := ms_may_swap wf wa wb h1 h2 h3 h4
  have hh : holdsC M.map (swapQ k a b wf wa wb).cmps = false := by rw [ms_holds wf wa wb hx]; simp [hv]
  have hp : planL M.map (swapQ k a b wf wa wb) = [] := by
    unfold planL; rw [hh]
    simp [swapQ]
  have hc : M.chE (swapQ k a b wf wa wb) = 0 := by unfold MA.chE; rw [if_pos hp]
  have he : M.err (swapQ k a b wf wa wb) = 0 := by
    unfold MA.err
    rw [if_pos hm, if_neg (show ¬ (swapQ k a b wf wa wb).kind = 2 by show ¬ ((1 : Int) = 2); decide), if_neg (show ¬ (swapQ k a b wf wa wb).kind = 3 by show ¬ ((1 : Int) = 3); decide), hc]
  refine ⟨he, by rw [ms_ok hm rfl he, hh], ?_⟩
  unfold MA.next
  rw [if_pos hm, if_neg (show ¬ (swapQ k a b wf wa wb).kind = 2 by show ¬ ((1 : Int) = 2); decide), if_neg (show ¬ (swapQ k a b wf wa wb).kind = 3 by show ¬ ((1 : Int) = 3); decide), if_pos hc, hp]
  exact app_nil _
/-- one key's range -/
theorem range_one {m : List Kv} (hs : Srt Kv.key m) {k : ByteArray} {x : Kv} (hx : getK k m = some x) (t : ByteArray) (ht : t.toList = k.toList ++ [0]) : restrictK k t m = [x] := by
  obtain ⟨h1, h2⟩ := (getK_srt hs).1 hx
  have hin : ∀ y : Kv, inR k t y.key = decide (y.key = k) := fun y => by
    unfold inR
    rw [ht, one_in, Bool.eq_iff_iff]
    simp only [beq_iff_eq, decide_eq_true_eq]
    exact ⟨fun h => bs_inj h, fun h => by rw [h]⟩
  refine srt_ext (srt_filter hs _) (List.pairwise_singleton _ _) (fun y => ?_)
  unfold restrictK
  rw [List.mem_filter, hin, decide_eq_true_eq, List.mem_singleton]
  constructor
  · rintro ⟨h3, h4⟩
    have := (getK_srt hs).2 ⟨h3, h4⟩
    rw [hx] at this
    exact (Option.some.inj this).symm
  · rintro rfl; exact ⟨h1, h2⟩
/-- the request that reads one key at the last revision -/
def oq (k t : ByteArray) : Rq := ⟨2, k, t, 0, [], [], []⟩
theorem oq_tell {M : MA} (hh : M.H.hor ≤ M.H.rows.length) {k t : ByteArray} (hm : mayRangeB k.toList t.toList = true) {x : Kv} (hx : getK k M.map = some x) (ht : t.toList = k.toList ++ [0]) : M.tell (oq k t) = [x] ∧ M.next (oq k t) = M := by
  have hmq : mayQ (oq k t) = true := by
    unfold mayQ
    rw [if_neg (show ¬ (oq k t).kind = 1 by show ¬ ((2 : Int) = 1); decide), if_pos (show (oq k t).kind = 2 from rfl)]
    show (mayRangeB k.toList t.toList && decide ((0 : Int) ≤ 0)) = true
    rw [hm]; rfl
  refine ⟨?_, next_same (by unfold entryB oq; simp)⟩
  unfold MA.tell
  rw [if_pos ⟨hmq, rfl⟩]
  have ha : M.at_ (oq k t) = (M.H.rows.length : Int) := by unfold MA.at_ oq; simp
  rw [ha]
  unfold HA.atL
  rw [if_pos (at_ok hh (Nat.le_refl _)).1]
  show restrictK k t (mapN M.H.rows ((M.H.rows.length : Int).toNat)) = _
  rw [Int.toNat_natCast]
  exact range_one (srt_mapN _ _) hx t ht
end Go.Proofs.Ytlklmmpblgcaoaa
