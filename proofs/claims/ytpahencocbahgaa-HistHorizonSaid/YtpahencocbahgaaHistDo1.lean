/- THE LAWS OF hist: do: its contract -/
import Derived.Test.YtpahencocbahgaaHistDo
namespace Go.Proofs.Ytpahencocbahgaa
open Go.RowKit
set_option linter.unusedVariables false
set_option linter.unusedSimpArgs false

def stepH (H : HA) (kind : Int) (ops : List Od) (rev : Int) : HA := if kind = 1 then H.app ops else H.com rev
theorem stepH_ok {H : HA} {n : Nat} (h : HOk H n) {kind rev : Int} {ops : List Od} (ho : ops.length ≤ 8) : HOk (stepH H kind ops rev) (n + 1) := by
  unfold stepH; split
  · exact h.app ho
  · exact (h.com rev).mono (by omega)
theorem stepH_later (H : HA) (kind rev : Int) (ops : List Od) : HLater H (stepH H kind ops rev) := by
  unfold stepH; split
  · exact HLater.app H ops
  · exact HLater.com H rev
/-- the document's rows, of which little is asked here -/
structure XOk (rows : List (List Ev)) (n : Nat) : Prop where
  len : rows.length ≤ n
  row : ∀ r ∈ rows, r.length ≤ 8
theorem XOk.nil (n : Nat) : XOk [] n := ⟨Nat.zero_le _, by intro r h; cases h⟩
theorem XOk.mono {rows : List (List Ev)} {n n' : Nat} (h : XOk rows n) (hn : n ≤ n') : XOk rows n' := ⟨Nat.le_trans h.len hn, h.row⟩
theorem XOk.app {rows : List (List Ev)} {n : Nat} (h : XOk rows n) {ops : List Od} (ho : ops.length ≤ 8) : XOk (putR rows (rowOf rows ops)) (n + 1) := by
  have h1 := putR_len rows (rowOf rows ops)
  have h2 := h.len
  refine ⟨by omega, fun r hr => ?_⟩
  unfold putR at hr
  split at hr
  · exact h.row r hr
  · rcases List.mem_append.1 hr with hr | hr
    · exact h.row r hr
    · simp only [List.mem_singleton] at hr
      subst hr
      have := rowOf_len rows ops; omega
theorem XOk.flat {rows : List (List Ev)} {n : Nat} (h : XOk rows n) : rows.flatten.length ≤ 8 * n := by
  have h1 := flat_len rows h.row
  have h2 := h.len
  omega
def DoneH (T : List Nat) (w : World) (p : Nat) (S : List Nat) (n : Nat) (H' : HA) (e : Ending) (w' : World) : Prop :=
  ∃ rv' rows' hor' b S', e = .returned (.tuple #[.agg #[rv', .int .i64 hor'], .bool b]) ∧ RowsF (T ++ S') w' rv' rows' ∧ XOk rows' (n + 1) ∧ Hs w' p S' H' ∧ Fr S w w' ∧ Grow S S' w
theorem Grow.of {S S' : List Nat} {w w0 : World} (h : Grow S S' w) (hs : w0.heap.size ≤ w.heap.size) : Grow S S' w0 := fun k hk => by
  rcases h k hk with h1 | h1
  · exact Or.inl h1
  · exact Or.inr (by omega)
set_option maxHeartbeats 2000000 in
theorem hdo_app {w : World} {p n : Nat} {S : List Nat} {H : HA} (h : Hs w p S H) (hk : HOk H n) (hn : n ≤ 1000) (rv : Value) (rows : List (List Ev)) (hor : Int) (T : List Nat) (hT : ∀ k ∈ T, k < w.heap.size) (hr : RowsF (T ++ S) w rv rows) (rk : XOk rows n) (rev : Int) (u : Value) (ops : List Od) (ho : LFar S Od.cells 3 w u ops) (bo : ops.length ≤ 8) :
    Calls Try.prog 12 #[.pointer (some ⟨p, 0, none⟩), .agg #[rv, .int .i64 hor], .agg #[.int .i64 1, u, .int .i64 rev]] w (DoneH T w p S n (H.app ops)) := by
  obtain ⟨s1, c1, rfl, la, ma⟩ := hr.form
  obtain ⟨s2, c2, rfl, la2, ma2⟩ := ho.form
  unfold maxLen at ma ma2
  have hf0 : Fr [] w (((w.alloc (.cells #[.slice s1 rows.length c1, .int .i64 hor] 36)).alloc (.cells #[.int .i64 1, .slice s2 ops.length c2, .int .i64 rev] 41)).alloc (.cells #[.slice none 0 0, .int .i64 0] 36)) := (((Fr.refl [] w).alloc _).alloc _).alloc _
  have HSL := Lib.hid (h.lt)
  have HK := Lib.hid hk
  have HS := Lib.hid (h.keep hf0 (by simp))
  have HR0 := Lib.hid hr
  have HO := Lib.hid (ho.keep0 hf0)
  have HRK := Lib.hid rk
  have HF0 := Lib.hid hf0
  clear h hk hr rk ho hf0
  go_enter Try.func12, Try.ntmps12
  go_wp2_with (go_at_call 16; refine (hist_apply _ ops HS.out HK.out hn HO.out bo).mono ?_; rintro e w1 ⟨v1, S1, rfl, h1, h2, hnew, h3, h4⟩; refine go_stop ?_)
  unfold Stop
  obtain ⟨q0, q1, q2, hf1⟩ := three_boxes HSL.out h3
  obtain ⟨b0, b1, _⟩ := cells2 q0
  obtain ⟨d0, d1, d2, _⟩ := cells3 q1
  have hsz : w.heap.size + 3 ≤ w1.heap.size := by have := h3.size; simp at this; omega
  have HS1 := Lib.hid h1
  have HL1 : Hid (LFar ((w.heap.size + 2) :: (T ++ S1)) Ev.cells 4 w1 v1 (H.told ops)) := Lib.hid ⟨h2.1, fun hl k hk hm => by
    rcases List.mem_cons.1 hm with rfl | hm
    · have := hnew _ hk; simp at this; omega
    · rcases List.mem_append.1 hm with hm | hm
      · have := hnew _ hk; have := hT k hm; simp at *; omega
      · exact h2.2 hl k hk hm⟩
  have HG := Lib.hid (h4.of HF0.out.size)
  have HT6 : Hid (∀ k ∈ S1, k ≠ w.heap.size + 1 + 1) := Lib.hid (fun k hk => by
    rcases h4 k hk with h5 | h5
    · have := HSL.out k h5; omega
    · simp at h5; omega)
  have HF1 := Lib.hid hf1
  have hgr : Grow (T ++ S) ((w.heap.size + 2) :: (T ++ S1)) w := fun k hk => by
    rcases List.mem_cons.1 hk with rfl | hk
    · exact Or.inr (by omega)
    · rcases List.mem_append.1 hk with hk | hk
      · exact Or.inl (List.mem_append_left _ hk)
      · rcases (h4.of HF0.out.size) k hk with h9 | h9
        · exact Or.inl (List.mem_append_right _ h9)
        · exact Or.inr h9
  have HR2 := Lib.hid (HR0.out.step (hf1.mono (fun k hk => Or.inl (List.mem_append_right _ hk))) hgr)
  have HO1 := Lib.hid (HO.out.keep h3).lin
  have HQ2 := Lib.hid q2
  have HSZ := Lib.hid hsz
  obtain ⟨sl, cl, rfl, _, _⟩ := h2.form
  have HLT : Hid (∀ k ∈ ((w.heap.size + 2) :: (T ++ S1)), k < w1.heap.size) := Lib.hid (fun k hk => by
    rcases List.mem_cons.1 hk with rfl | hk
    · omega
    · rcases List.mem_append.1 hk with hk | hk
      · have := hT k hk; omega
      · exact h1.lt k hk)
  clear h1 h2 h3 h4 q0 q1 q2 hf1 hsz hgr hnew
  go_wp2_with (go_at_call 29; refine (rapply_any ((w.heap.size + 2) :: (T ++ S1)) _ _ rows ops hor _ HR2.out HO1.out HLT.out (by have := HRK.out.flat; unfold many; omega) (by have := HRK.out.len; unfold many; omega) (by unfold many; omega)).mono ?_; rintro e w2 ⟨rv2, row2, rfl, h1, h2, h3⟩; refine go_stop ?_)
  unfold Stop
  have hsz3 := h3.size
  have hsz1 := HSZ.out
  obtain ⟨srv, crv, rfl, _, _⟩ := h1.form
  obtain ⟨sr2, cr2, rfl, _, _⟩ := h2.form
  obtain ⟨y0, y1, yf⟩ := cells2 (h3.keep HQ2.out (by simp))
  have yf0 := yf 0
  have yf1 := yf 1
  have HR3 := Lib.hid (h1.keep0 ((Fr.refl [] w2).alloc (.cells #[.slice srv (putR rows (rowOf rows ops)).length crv, .int .i64 hor] 36)))
  have HE3 := Lib.hid (h2.keep0 ((Fr.refl [] w2).alloc (.cells #[.slice srv (putR rows (rowOf rows ops)).length crv, .int .i64 hor] 36)))
  have HL3 := Lib.hid ((HL1.out.keep0 h3).keep0 ((Fr.refl [] w2).alloc (.cells #[.slice srv (putR rows (rowOf rows ops)).length crv, .int .i64 hor] 36)))
  have HS3 := Lib.hid ((HS1.out.keep h3 (by simp)).keep ((Fr.refl [] w2).alloc (.cells #[.slice srv (putR rows (rowOf rows ops)).length crv, .int .i64 hor] 36)) (by simp))
  have HF3 := Lib.hid ((HF1.out.trans h3 (by simp)).alloc (.cells #[.slice srv (putR rows (rowOf rows ops)).length crv, .int .i64 hor] 36))
  have HX3 : Hid (XOk (putR rows (rowOf rows ops)) (n + 1)) := Lib.hid (HRK.out.app bo)
  have n1 : ¬ w.heap.size + 2 = w2.heap.size := by omega
  have n2 : ¬ w2.heap.size = w.heap.size + 2 := by omega
  have n3 : w.heap.size + 2 < w2.heap.size := by omega
  have HB3 : Hid ((w2.alloc (.cells #[.slice srv (putR rows (rowOf rows ops)).length crv, .int .i64 hor] 36)).heap[w2.heap.size]? = some (.cells #[.slice srv (putR rows (rowOf rows ops)).length crv, .int .i64 hor] 36 (0, 0))) := Lib.hid (new_block w2 _)
  have HY3 : Hid ((w2.alloc (.cells #[.slice srv (putR rows (rowOf rows ops)).length crv, .int .i64 hor] 36)).heap[w.heap.size + 1 + 1]? = some (.cells #[.slice none 0 0, .int .i64 0] 36 (0, 0))) := Lib.hid (blk_alloc (h3.keep HQ2.out (by simp)) _)
  have n4 : ¬ w.heap.size + 1 + 1 = w2.heap.size := by omega
  have n5 : ¬ w2.heap.size = w.heap.size + 1 + 1 := by omega
  clear b0 b1 d0 d1 d2 h1 h2 h3 yf HS HO HF0 HS1 HL1 HR2 HO1
  go_wp2_with fail
  go_region_held3 (fun w' => w'.cell? ⟨w2.heap.size, 0, none⟩ = some (.slice srv (putR rows (rowOf rows ops)).length crv) ∧ w'.cell? ⟨w2.heap.size, 1, none⟩ = some (.int .i64 hor)) (go_keep) (first
    | (go_at_call 30; refine (revents_any _ _ _ _ _ (LFar.linT HL3.out (by repeat (first | (with_reducible exact Fr.refl _ _) | (with_reducible refine Fr.drew ?_) | (with_reducible refine Fr.setCell ?_ (Or.inl (by simp)) _)))) (LFar.linT HE3.out (by repeat (first | (with_reducible exact Fr.refl _ _) | (with_reducible refine Fr.drew ?_) | (with_reducible refine Fr.setCell ?_ (Or.inl (by simp)) _))))).mono ?_; rintro e w4 ⟨rfl, h5⟩; have h6 : Fr [w.heap.size + 2] (w2.alloc (.cells #[.slice srv (putR rows (rowOf rows ops)).length crv, .int .i64 hor] 36)) w4 := Fr.trans (by repeat (first | (with_reducible exact Fr.refl _ _) | (with_reducible refine Fr.drew ?_) | (with_reducible refine Fr.setCell ?_ (Or.inl (by simp)) _))) h5 (by simp); obtain ⟨z0, z1, _⟩ := cells2 (h6.keep HB3.out (by simp; omega)); (first | (have h7 : Fr [] (w2.alloc (.cells #[.slice srv (putR rows (rowOf rows ops)).length crv, .int .i64 hor] 36)) w4 := Fr.trans (by first | exact Fr.refl _ _ | exact (Fr.refl _ _).drew) h5 (by simp); obtain ⟨y0, y1, yf⟩ := cells2 (h7.keep HY3.out (by simp)); have yf0 := yf 0; have yf1 := yf 1; clear yf h7) | skip); have HH := Lib.hid h6; clear h5 h6))
  go_wp2_with fail
  have hset : Fr [w.heap.size + 1 + 1] (w2.alloc (.cells #[.slice srv (putR rows (rowOf rows ops)).length crv, .int .i64 hor] 36)) ((w4.setCell ⟨w.heap.size + 1 + 1, 0, none⟩ (.slice srv (putR rows (rowOf rows ops)).length crv)).setCell ⟨w.heap.size + 1 + 1, 1, none⟩ (.int .i64 hor)) := (HH.out.setCell (p := ⟨w.heap.size + 1 + 1, 0, none⟩) (Or.inl (by simp)) _).setCell (p := ⟨w.heap.size + 1 + 1, 1, none⟩) (Or.inl (by simp)) _
  refine bodyPost_ret (v := .tuple #[.agg #[.slice srv (putR rows (rowOf rows ops)).length crv, .int .i64 hor], .bool (sameB evB (H.told ops) (rowOf rows ops))]) (by simp [results, Try.results12, go_sem, *]) rfl ?_
  refine ⟨_, _, _, _, S1, rfl, (HR3.out.keep (hset.mono (by simp))).grow (fun k hk => Or.inl (List.mem_cons_of_mem _ hk)), HX3.out, HS3.out.keep hset (fun k hk hm => HT6.out k hk (by simpa using hm)), HF3.out.trans hset (fun k hk => Or.inr (by simp at hk; omega)), HG.out⟩
set_option maxHeartbeats 2000000 in
theorem hdo_com {w : World} {p n : Nat} {S : List Nat} {H : HA} (h : Hs w p S H) (hk : HOk H n) (hn : n ≤ 1000) (rv : Value) (rows : List (List Ev)) (hor : Int) (T : List Nat) (hT : ∀ k ∈ T, k < w.heap.size) (hr : RowsF (T ++ S) w rv rows) (rk : XOk rows n) (kind : Int) (h1 : kind ≠ 1) (rev : Int) (u : Value) (hu : u.oneCell' = true) (ops : List Od) :
    Calls Try.prog 12 #[.pointer (some ⟨p, 0, none⟩), .agg #[rv, .int .i64 hor], .agg #[.int .i64 kind, u, .int .i64 rev]] w (DoneH T w p S n (H.com rev)) := by
  obtain ⟨s1, c1, rfl, la, ma⟩ := hr.form
  unfold maxLen at ma
  have hf0 : Fr [] w (((w.alloc (.cells #[.slice s1 rows.length c1, .int .i64 hor] 36)).alloc (.cells #[.int .i64 kind, u, .int .i64 rev] 41)).alloc (.cells #[.slice none 0 0, .int .i64 0] 36)) := (((Fr.refl [] w).alloc _).alloc _).alloc _
  have HSL := Lib.hid (h.lt)
  have HK := Lib.hid hk
  have HS := Lib.hid (h.keep hf0 (by simp))
  have HR0 := Lib.hid hr
  have HRK := Lib.hid rk
  have HF0 := Lib.hid hf0
  have t1 : (kind == 1) = false := by simpa using h1
  clear h hk hr rk hf0
  go_enter Try.func12, Try.ntmps12
  go_wp2_with (go_at_call 17; refine (hist_compact _ HS.out HK.out hn).mono ?_; rintro e w1 ⟨S1, rfl, h1, h3, h4⟩; refine go_stop ?_)
  unfold Stop
  obtain ⟨q0, q1, q2, hf1⟩ := three_boxes HSL.out h3
  obtain ⟨b0, b1, _⟩ := cells2 q0
  obtain ⟨d0, d1, d2, _⟩ := cells3 q1
  have hsz : w.heap.size + 3 ≤ w1.heap.size := by have := h3.size; simp at this; omega
  have HS1 := Lib.hid h1
  have HG := Lib.hid (h4.of HF0.out.size)
  have HT6 : Hid (∀ k ∈ S1, k ≠ w.heap.size + 1 + 1) := Lib.hid (fun k hk => by
    rcases h4 k hk with h5 | h5
    · have := HSL.out k h5; omega
    · simp at h5; omega)
  have HF1 := Lib.hid hf1
  have hgr : Grow (T ++ S) ((w.heap.size + 2) :: (T ++ S1)) w := fun k hk => by
    rcases List.mem_cons.1 hk with rfl | hk
    · exact Or.inr (by omega)
    · rcases List.mem_append.1 hk with hk | hk
      · exact Or.inl (List.mem_append_left _ hk)
      · rcases (h4.of HF0.out.size) k hk with h9 | h9
        · exact Or.inl (List.mem_append_right _ h9)
        · exact Or.inr h9
  have HR2 := Lib.hid (HR0.out.step (hf1.mono (fun k hk => Or.inl (List.mem_append_right _ hk))) hgr)
  have HQ2 := Lib.hid q2
  have HSZ := Lib.hid hsz
  clear h1 h3 h4 q0 q1 q2 hf1 hsz hgr
  go_wp2_with (go_at_call 31; refine (rcompact_any _ rows.length c1 hor rev _).mono ?_; rintro e w2 ⟨rfl, h3⟩; refine go_stop ?_)
  unfold Stop
  obtain ⟨hor2, bad2, hc2⟩ : ∃ a b, comR rows.length hor rev = (a, b) := ⟨_, _, rfl⟩
  rw [hc2]
  dsimp only
  have hsz3 := h3.size
  have hsz1 := HSZ.out
  obtain ⟨y0, y1, yf⟩ := cells2 (h3.keep HQ2.out (by simp))
  have yf0 := yf 0
  have yf1 := yf 1
  have HR3 := Lib.hid (HR2.out.keep0 h3)
  have HS3 := Lib.hid (HS1.out.keep h3 (by simp))
  have HF3 := Lib.hid (HF1.out.trans h3 (by simp))
  have n1 : ¬ w.heap.size + 2 = w2.heap.size := by omega
  have n2 : ¬ w2.heap.size = w.heap.size + 2 := by omega
  have n3 : w.heap.size + 2 < w2.heap.size := by omega
  have n4 : ¬ w.heap.size + 1 + 1 = w2.heap.size := by omega
  have n5 : ¬ w2.heap.size = w.heap.size + 1 + 1 := by omega
  clear b0 b1 d0 d1 d2 h3 yf HS HF0 HS1 HR2 hc2
  cases hq : (H.comE rev == bad2)
  all_goals
    go_wp2_with fail
    have hset : Fr [w.heap.size + 1 + 1] w2 (((w2.setCell ⟨w.heap.size + 1 + 1, 0, none⟩ (.slice s1 rows.length c1)).setCell ⟨w.heap.size + 1 + 1, 1, none⟩ (.int .i64 hor2)).alloc (.cells #[.slice s1 rows.length c1, .int .i64 hor2] 36)) := (((Fr.refl _ _).setCell (p := ⟨w.heap.size + 1 + 1, 0, none⟩) (Or.inl (by simp)) _).setCell (p := ⟨w.heap.size + 1 + 1, 1, none⟩) (Or.inl (by simp)) _).alloc _
  · refine bodyPost_ret (v := .tuple #[.agg #[.slice s1 rows.length c1, .int .i64 hor2], .bool false]) (by simp [results, Try.results12, go_sem, *]) rfl ?_
    exact ⟨_, _, _, _, S1, rfl, (HR3.out.keep (hset.mono (by simp))).grow (fun k hk => Or.inl (List.mem_cons_of_mem _ hk)), HRK.out.mono (by omega), HS3.out.keep hset (fun k hk hm => HT6.out k hk (by simpa using hm)), HF3.out.trans hset (fun k hk => Or.inr (by simp at hk; omega)), HG.out⟩
  · refine bodyPost_ret (v := .tuple #[.agg #[.slice s1 rows.length c1, .int .i64 hor2], .bool true]) (by simp [results, Try.results12, go_sem, *]) rfl ?_
    exact ⟨_, _, _, _, S1, rfl, (HR3.out.keep (hset.mono (by simp))).grow (fun k hk => Or.inl (List.mem_cons_of_mem _ hk)), HRK.out.mono (by omega), HS3.out.keep hset (fun k hk hm => HT6.out k hk (by simpa using hm)), HF3.out.trans hset (fun k hk => Or.inr (by simp at hk; omega)), HG.out⟩
/-- a deed -/
theorem hdo_any {w : World} {p n : Nat} {S : List Nat} {H : HA} (h : Hs w p S H) (hk : HOk H n) (hn : n ≤ 1000) (rv : Value) (rows : List (List Ev)) (hor : Int) (T : List Nat) (hT : ∀ k ∈ T, k < w.heap.size) (hr : RowsF (T ++ S) w rv rows) (rk : XOk rows n) (kind rev : Int) (u : Value) (ops : List Od) (ho : LFar S Od.cells 3 w u ops) (bo : ops.length ≤ 8) :
    Calls Try.prog 12 #[.pointer (some ⟨p, 0, none⟩), .agg #[rv, .int .i64 hor], .agg #[.int .i64 kind, u, .int .i64 rev]] w (DoneH T w p S n (stepH H kind ops rev)) := by
  unfold stepH
  by_cases h1 : kind = 1
  · subst h1
    rw [if_pos rfl]
    exact hdo_app h hk hn rv rows hor T hT hr rk rev u ops ho bo
  · rw [if_neg h1]
    exact hdo_com h hk hn rv rows hor T hT hr rk kind h1 rev u (by obtain ⟨_, _, hv, _⟩ := ho.form; rw [hv]; rfl) ops
end Go.Proofs.Ytpahencocbahgaa
