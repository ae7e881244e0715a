/- PACKAGE front: what entries do, plainly; its contracts -/
import Derived.Test.YtmipllkgioakoaaGreatTxn
import Derived.Test.YtmipllkgioakoaaGreatAfter
import Derived.Test.YtmipllkgioakoaaGreatHistVer
import Derived.Lib.MinMax
namespace Go.Proofs.YtmipllkgioakoaaGreat
open Go.RowKit
set_option linter.unusedVariables false
set_option linter.unusedSimpArgs false

/-- which revision is read, and why not -/
def frR (rev r : Int) : Int := if rev = 0 then r else rev
def frE (rev r h : Int) : Int := if frR rev r < h then 5 else if r < frR rev r then 6 else 0
def frV (rev r h : Int) : Int := if frE rev r h = 0 then frR rev r else 0
theorem frE_cases (rev r h : Int) : (frR rev r < h ∧ frE rev r h = 5 ∧ frV rev r h = 0) ∨ (¬ frR rev r < h ∧ r < frR rev r ∧ frE rev r h = 6 ∧ frV rev r h = 0) ∨ (¬ frR rev r < h ∧ ¬ r < frR rev r ∧ frE rev r h = 0 ∧ frV rev r h = frR rev r) := by
  unfold frV
  by_cases h1 : frR rev r < h
  · have : frE rev r h = 5 := by unfold frE; rw [if_pos h1]
    exact Or.inl ⟨h1, this, by rw [this]; rfl⟩
  · by_cases h2 : r < frR rev r
    · have : frE rev r h = 6 := by unfold frE; rw [if_neg h1, if_pos h2]
      exact Or.inr (Or.inl ⟨h1, h2, this, by rw [this]; rfl⟩)
    · have : frE rev r h = 0 := by unfold frE; rw [if_neg h1, if_neg h2]
      exact Or.inr (Or.inr ⟨h1, h2, this, by rw [this]; rfl⟩)
theorem fw64 {n : Int} (h0 : -9223372036854775808 ≤ n) (h1 : n ≤ 9223372036854775807) : wrap64 n = n := IntWalk.wrap64_in n ⟨h0, h1⟩
/-- is there room for a revision more? -/
def roomE (r h : Int) : Int := if 1000 ≤ r then 9 else if 16 < wrap64 (wrap64 (r + 1) - h) then 3 else 0
/-- what an entry does -/
structure Pl where
  ok : Bool
  rows : List Ev
  err : Int
  hor : Int
def evL (rev : Int) (l : List Od) : List Ev := l.map (Od.ev rev)
theorem evL_len (rev : Int) (l : List Od) : (evL rev l).length = l.length := List.length_map _
def chP (q : Rq) (m : List Kv) (r h : Int) : Pl :=
  if planL m q = [] then ⟨holdsC m q.cmps, [], 0, 0⟩ else if roomE r h = 0 then ⟨holdsC m q.cmps, evL (wrap64 (r + 1)) (planL m q), 0, 0⟩ else ⟨false, [], roomE r h, 0⟩
def coP (rev r : Int) : Pl := if r < rev then ⟨false, [], 6, 0⟩ else ⟨false, [], 0, rev⟩
def decP (q : Rq) (m : List Kv) (r h : Int) : Pl := if q.kind = 1 then chP q m r h else if q.kind = 3 then coP q.rev r else ⟨false, [], 0, 0⟩
def Pl.val (P : Pl) (v : Value) : Value := .agg #[.bool P.ok, v, .int .i64 P.err, .int .i64 P.hor]

theorem fr_at (q : Rq) (s1 s2 s3 : Option Addr) (n1 n2 n3 c1 c2 c3 : Nat) (s r h : Int) (w : World) : Calls Tryz.prog 10 #[.agg #[.int .i64 q.kind, .string q.f, .string q.t, .int .i64 q.rev, .slice s1 n1 c1, .slice s2 n2 c2, .slice s3 n3 c3], .agg #[.int .i64 s, .int .i64 r, .int .i64 h]] w fun e w' =>
    e = .returned (.tuple #[.int .i64 (frV q.rev r h), .int .i64 (frE q.rev r h)]) ∧ Fr [] w w' := by
  have hal : Hid (∀ o1 o2, Fr [] w ((w.alloc o1).alloc o2)) := Lib.hid (fun o1 o2 => ((Fr.refl [] w).alloc o1).alloc o2)
  have h0 := frE_cases q.rev r h
  obtain ⟨x, hx⟩ : ∃ x, frR q.rev r = x := ⟨_, rfl⟩
  obtain ⟨E, hE⟩ : ∃ E, frE q.rev r h = E := ⟨_, rfl⟩
  obtain ⟨V, hV⟩ : ∃ V, frV q.rev r h = V := ⟨_, rfl⟩
  rw [hx, hE, hV] at h0
  rw [hE, hV]
  clear hE hV
  obtain ⟨rv, hrv⟩ : ∃ rv, q.rev = rv := ⟨_, rfl⟩
  rw [hrv] at hx ⊢
  clear hrv
  by_cases hz : rv = 0
  · have hx : x = r := by rw [← hx]; unfold frR; rw [if_pos hz]
    subst hx
    have t0 : (rv == 0) = true := by simpa using hz
    clear hz
    rcases h0 with ⟨h1, rfl, rfl⟩ | ⟨h1, h2, rfl, rfl⟩ | ⟨h1, h2, rfl, hv⟩
    · have t1 : decide (x < h) = true := by simpa using h1
      clear h1
      go_enter Tryz.func10, Tryz.ntmps10
      go_wp2
      refine bodyPost_ret (v := .tuple #[.int .i64 0, .int .i64 5]) (by simp [results, Tryz.results10, go_sem]) rfl ?_
      exact ⟨rfl, hal.out _ _⟩
    · exact absurd h2 (by omega)
    · obtain rfl := hv.symm
      have t1 : decide (x < h) = false := by simpa using h1
      clear h1
      go_enter Tryz.func10, Tryz.ntmps10
      go_wp2
      refine bodyPost_ret (v := .tuple #[.int .i64 x, .int .i64 0]) (by simp [results, Tryz.results10, go_sem]) rfl ?_
      exact ⟨rfl, hal.out _ _⟩
  · have hx : x = rv := by rw [← hx]; unfold frR; rw [if_neg hz]
    subst hx
    have t0 : (x == 0) = false := by simpa using hz
    clear hz
    rcases h0 with ⟨h1, rfl, rfl⟩ | ⟨h1, h2, rfl, rfl⟩ | ⟨h1, h2, rfl, hv⟩
    · have t1 : decide (x < h) = true := by simpa using h1
      clear h1
      go_enter Tryz.func10, Tryz.ntmps10
      go_wp2
      refine bodyPost_ret (v := .tuple #[.int .i64 0, .int .i64 5]) (by simp [results, Tryz.results10, go_sem]) rfl ?_
      exact ⟨rfl, hal.out _ _⟩
    · have t1 : decide (x < h) = false := by simpa using h1
      have t2 : decide (r < x) = true := by simpa using h2
      clear h1 h2
      go_enter Tryz.func10, Tryz.ntmps10
      go_wp2
      refine bodyPost_ret (v := .tuple #[.int .i64 0, .int .i64 6]) (by simp [results, Tryz.results10, go_sem]) rfl ?_
      exact ⟨rfl, hal.out _ _⟩
    · obtain rfl := hv.symm
      have t1 : decide (x < h) = false := by simpa using h1
      have t2 : decide (r < x) = false := by simpa using h2
      clear h1 h2
      go_enter Tryz.func10, Tryz.ntmps10
      go_wp2
      refine bodyPost_ret (v := .tuple #[.int .i64 x, .int .i64 0]) (by simp [results, Tryz.results10, go_sem]) rfl ?_
      exact ⟨rfl, hal.out _ _⟩
theorem fr_room (s r h : Int) (w : World) : Calls Tryz.prog 52 #[.agg #[.int .i64 s, .int .i64 r, .int .i64 h]] w fun e w' => e = .returned (.int .i64 (roomE r h)) ∧ Fr [] w w' := by
  have hal : Hid (∀ o1, Fr [] w (w.alloc o1)) := Lib.hid (fun o1 => (Fr.refl [] w).alloc o1)
  by_cases h1 : 1000 ≤ r
  · have HE : Hid (roomE r h = 9) := Lib.hid (by unfold roomE; rw [if_pos h1])
    have t1 : decide (1000 ≤ r) = true := by simpa using h1
    clear h1
    go_enter Tryz.func52, Tryz.ntmps52
    go_wp2
    go_ret
    exact ⟨by rw [HE.out]; rfl, hal.out _⟩
  · have t1 : decide (1000 ≤ r) = false := by simpa using h1
    by_cases h2 : 16 < wrap64 (wrap64 (r + 1) - h)
    · have HE : Hid (roomE r h = 3) := Lib.hid (by unfold roomE; rw [if_neg h1, if_pos h2])
      have t2 : decide (16 < wrap64 (wrap64 (r + 1) - h)) = true := by simpa using h2
      clear h1 h2
      go_enter Tryz.func52, Tryz.ntmps52
      go_wp2
      go_ret
      exact ⟨by rw [HE.out]; rfl, hal.out _⟩
    · have HE : Hid (roomE r h = 0) := Lib.hid (by unfold roomE; rw [if_neg h1, if_neg h2])
      have t2 : decide (16 < wrap64 (wrap64 (r + 1) - h)) = false := by simpa using h2
      clear h1 h2
      go_enter Tryz.func52, Tryz.ntmps52
      go_wp2
      go_ret
      exact ⟨by rw [HE.out]; rfl, hal.out _⟩
theorem fr_compact (rev r : Int) (w : World) : Calls Tryz.prog 34 #[.int .i64 rev, .int .i64 r] w fun e w' => e = .returned ((coP rev r).val (.slice none 0 0)) ∧ Fr [] w w' := by
  by_cases h1 : r < rev
  · have HE : Hid (coP rev r = ⟨false, [], 6, 0⟩) := Lib.hid (by unfold coP; rw [if_pos h1])
    have t1 : decide (r < rev) = true := by simpa using h1
    clear h1
    go_enter Tryz.func34, Tryz.ntmps34
    go_wp2
    refine bodyPost_ret (v := .agg #[.bool false, .slice none 0 0, .int .i64 6, .int .i64 0]) (by simp [results, Tryz.results34, go_sem]) rfl ?_
    exact ⟨by rw [HE.out]; rfl, (Fr.refl _ _).alloc _⟩
  · have HE : Hid (coP rev r = ⟨false, [], 0, rev⟩) := Lib.hid (by unfold coP; rw [if_neg h1])
    have t1 : decide (r < rev) = false := by simpa using h1
    clear h1
    go_enter Tryz.func34, Tryz.ntmps34
    go_wp2
    refine bodyPost_ret (v := .agg #[.bool false, .slice none 0 0, .int .i64 0, .int .i64 rev]) (by simp [results, Tryz.results34, go_sem]) rfl ?_
    exact ⟨by rw [HE.out]; rfl, (Fr.refl _ _).alloc _⟩
/-- how a log stands behind an entry -/
def stR (r : Int) (n : Nat) : Int := if n = 0 then r else wrap64 (r + 1)
theorem fr_step (s r h : Int) (ok : Bool) (a : Option Addr) (n c : Nat) (er ho : Int) (bn : n ≤ 1000000) (w : World) : Calls Tryz.prog 16 #[.agg #[.int .i64 s, .int .i64 r, .int .i64 h], .agg #[.bool ok, .slice a n c, .int .i64 er, .int .i64 ho]] w fun e w' =>
    e = .returned (.agg #[.int .i64 (wrap64 (s + 1)), .int .i64 (stR r n), .int .i64 (max h ho)]) ∧ Fr [] w w' := by
  by_cases h0 : n = 0
  · subst h0
    have HR : Hid (stR r 0 = r) := Lib.hid rfl
    go_enter Tryz.func16, Tryz.ntmps16
    go_wp2
    refine bodyPost_ret (v := .agg #[.int .i64 (wrap64 (s + 1)), .int .i64 r, .int .i64 (max h ho)]) (by simp [results, Tryz.results16, go_sem]) rfl ?_
    refine ⟨by rw [HR.out], ?_⟩
    repeat (first | (with_reducible exact Fr.refl _ _) | (with_reducible refine Fr.alloc ?_ _) | (with_reducible refine Fr.setCell ?_ (Or.inr (by simp)) _))
  · have HR : Hid (stR r n = wrap64 (r + 1)) := Lib.hid (by unfold stR; rw [if_neg h0])
    have t0 : decide (0 < n) = true := by simp; omega
    have t1 : decide ((0 : Int) < (n : Int)) = true := by simp; omega
    clear h0
    go_enter Tryz.func16, Tryz.ntmps16
    go_wp2
    refine bodyPost_ret (v := .agg #[.int .i64 (wrap64 (s + 1)), .int .i64 (wrap64 (r + 1)), .int .i64 (max h ho)]) (by simp [results, Tryz.results16, go_sem]) rfl ?_
    refine ⟨by rw [HR.out], ?_⟩
    repeat (first | (with_reducible exact Fr.refl _ _) | (with_reducible refine Fr.alloc ?_ _) | (with_reducible refine Fr.setCell ?_ (Or.inr (by simp)) _))

theorem map_take_snoc3 {α β : Type} {l : List α} {j : Nat} {x : α} (f : α → β) (hx : l[j]? = some x) : (l.take (j + 1)).map f = (l.take j).map f ++ [f x] := by
  rw [List.take_add_one, hx, List.map_append]; rfl
set_option maxHeartbeats 2000000 in
theorem fr_events (rev : Int) (ov : Value) (ops : List Od) (w : World) (ho : OdIn w ov ops) (bo : ops.length ≤ many) : Calls Tryz.prog 53 #[.int .i64 rev, ov] w fun e w' =>
    ∃ v, e = .returned v ∧ OutAt Ev.cells 63 4 w w' v (evL rev ops) ∧ Fr [] w w' := by
  unfold many at bo
  obtain ⟨s1, c1, rfl, la, ma⟩ := LIn.form ho
  unfold maxLen at ma
  have HO := Lib.hid ho
  clear ho
  go_enter Tryz.func53, Tryz.ntmps53
  go_wp2_with fail
  go_loopw [5, 11] (fun v i wr => ∃ (j : Nat) (o : List Ev), i = .int .i64 j ∧ j ≤ ops.length ∧ OutAt Ev.cells 63 4 w wr v o ∧ o = (ops.take j).map (Od.ev rev) ∧ Fr [] w wr) (fun _ i _ => ops.length - (intOf i).toNat)
  case atStart => exact ⟨0, [], rfl, Nat.zero_le _, OutAt.nil _ _, rfl, Fr.refl _ _⟩
  case round =>
    obtain ⟨j, o, rfl, hj, ho, hs, hf⟩ := hrel
    have hol : o.length ≤ j := by rw [hs, List.length_map, List.length_take]; omega
    have HOO := Lib.hid ho
    have HSS := Lib.hid hs
    have HF := Lib.hid hf
    clear ho hs hf
    by_cases h : j < ops.length
    · obtain ⟨x, hx⟩ : ∃ x, ops[j]? = some x := ⟨_, List.getElem?_eq_getElem h⟩
      obtain ⟨g, off, d1, e1, hg, l1, k1⟩ := OdIn.here (LIn.keep0 HO.out HF.out) (by omega)
      cases e1
      obtain ⟨p0, p1, p2⟩ := k1 j x hx
      have HSN := Lib.hid (map_take_snoc3 (Od.ev rev) hx)
      have t2 : decide (j < ops.length) = true := by simpa using h
      have n3 : ¬ g = wr.heap.size := by omega
      have n4 : ¬ wr.heap.size = g := by omega
      have n5 : g < wr.heap.size := hg
      rcases x with ⟨xk, xv, xd, xw⟩
      dsimp only at p0 p1 p2
      clear hx k1
      cases xd
      · go_wp2_with (at_builtin; refine go_stop ?_)
        unfold Stop
        have hrow : Lies (((wr.alloc (.cells #[.string xk, .string xv, .bool false] 87)).alloc (.cells #[.int .i64 rev, .string xk, .string xv, .bool false] 63)).alloc (.cells #[.int .i64 rev, .string xk, .string xv, .bool false] 63)) 63 4 (.slice (some ⟨wr.heap.size + 1 + 1, 0, none⟩) 1 1) 1 (Ev.cells (Od.ev rev ⟨xk, xv, false, xw⟩)) := lies_row ((wr.alloc (.cells #[.string xk, .string xv, .bool false] 87)).alloc (.cells #[.int .i64 rev, .string xk, .string xv, .bool false] 63)) 63 (Ev.cells (Od.ev rev ⟨xk, xv, false, xw⟩)) rfl (wr.heap.size + 1 + 1) (by simp)
        have ha := HOO.out.keep ((((Fr.refl [] wr).alloc (.cells #[.string xk, .string xv, .bool false] 87)).alloc (.cells #[.int .i64 rev, .string xk, .string xv, .bool false] 63)).alloc (.cells #[.int .i64 rev, .string xk, .string xv, .bool false] 63))
        have hb := ((HF.out.alloc (.cells #[.string xk, .string xv, .bool false] 87)).alloc (.cells #[.int .i64 rev, .string xk, .string xv, .bool false] 63)).alloc (.cells #[.int .i64 rev, .string xk, .string xv, .bool false] 63)
        refine wpList_append_any rfl (.tmp 26) (.tmp 28) 50 63 (.agg #[.int .i64 0, .string ⟨#[]⟩, .string ⟨#[]⟩, .bool false]) 4 48 rfl ev_slice ev_info rfl (by decide) _ o.length (allC Ev.cells o) rfl ha.lies _ 1 (Ev.cells (Od.ev rev ⟨xk, xv, false, xw⟩)) rfl hrow (Ev.cone _) (by unfold maxLen; omega) (by omega) ?_
        intro v' w' h1 h2 h3
        have HA := Lib.hid (OutAt.app ha hb.size (xs := [(Od.ev rev ⟨xk, xv, false, xw⟩)]) (by rw [allC_one]; exact h1) rfl h3)
        have HG := Lib.hid (OutAt.fr ha hb h2)
        clear h1 h2 h3 ha hb hrow
        go_wp2_with fail
        go_roundw
        case rel =>
          refine ⟨j + 1, o ++ [(Od.ev rev ⟨xk, xv, false, xw⟩)], by go_num, by omega, HA.out, ?_, HG.out⟩
          rw [HSN.out, HSS.out]
        case measure => simp [intOf]; omega
      · go_wp2_with (at_builtin; refine go_stop ?_)
        unfold Stop
        have hrow : Lies (((wr.alloc (.cells #[.string xk, .string xv, .bool true] 87)).alloc (.cells #[.int .i64 rev, .string xk, .string ⟨#[]⟩, .bool true] 63)).alloc (.cells #[.int .i64 rev, .string xk, .string ⟨#[]⟩, .bool true] 63)) 63 4 (.slice (some ⟨wr.heap.size + 1 + 1, 0, none⟩) 1 1) 1 (Ev.cells (Od.ev rev ⟨xk, xv, true, xw⟩)) := lies_row ((wr.alloc (.cells #[.string xk, .string xv, .bool true] 87)).alloc (.cells #[.int .i64 rev, .string xk, .string ⟨#[]⟩, .bool true] 63)) 63 (Ev.cells (Od.ev rev ⟨xk, xv, true, xw⟩)) rfl (wr.heap.size + 1 + 1) (by simp)
        have ha := HOO.out.keep ((((Fr.refl [] wr).alloc (.cells #[.string xk, .string xv, .bool true] 87)).alloc (.cells #[.int .i64 rev, .string xk, .string ⟨#[]⟩, .bool true] 63)).alloc (.cells #[.int .i64 rev, .string xk, .string ⟨#[]⟩, .bool true] 63))
        have hb := ((HF.out.alloc (.cells #[.string xk, .string xv, .bool true] 87)).alloc (.cells #[.int .i64 rev, .string xk, .string ⟨#[]⟩, .bool true] 63)).alloc (.cells #[.int .i64 rev, .string xk, .string ⟨#[]⟩, .bool true] 63)
        refine wpList_append_any rfl (.tmp 26) (.tmp 28) 50 63 (.agg #[.int .i64 0, .string ⟨#[]⟩, .string ⟨#[]⟩, .bool false]) 4 48 rfl ev_slice ev_info rfl (by decide) _ o.length (allC Ev.cells o) rfl ha.lies _ 1 (Ev.cells (Od.ev rev ⟨xk, xv, true, xw⟩)) rfl hrow (Ev.cone _) (by unfold maxLen; omega) (by omega) ?_
        intro v' w' h1 h2 h3
        have HA := Lib.hid (OutAt.app ha hb.size (xs := [(Od.ev rev ⟨xk, xv, true, xw⟩)]) (by rw [allC_one]; exact h1) rfl h3)
        have HG := Lib.hid (OutAt.fr ha hb h2)
        clear h1 h2 h3 ha hb hrow
        go_wp2_with fail
        go_roundw
        case rel =>
          refine ⟨j + 1, o ++ [(Od.ev rev ⟨xk, xv, true, xw⟩)], by go_num, by omega, HA.out, ?_, HG.out⟩
          rw [HSN.out, HSS.out]
        case measure => simp [intOf]; omega
    · have t2 : decide (j < ops.length) = false := by simpa using h
      have HE : Hid (o = evL rev ops) := Lib.hid (by rw [HSS.out, List.take_of_length_le (by omega)]; rfl)
      go_wp2_with fail
      go_ret
      exact ⟨_, rfl, by rw [← HE.out]; exact HOO.out, HF.out⟩
set_option maxRecDepth 100000 in
theorem clone_kv (v : Value) (l : List Kv) (w : World) (hl : KvIn w v l) (bl : l.length ≤ 4000000000) : Calls Tryz.prog 31 #[v] w fun e w' => ∃ v', e = .returned v' ∧ OutAt Kv.cells 83 3 w w' v' l ∧ Fr [] w w' := by
  obtain ⟨s1, c1, rfl, la, ma⟩ := hl.form
  unfold maxLen at ma
  have HL := Lib.hid hl
  have heq := fun a n c w => Lib.run_eql_slice_nil (P := Tryz.prog) w 39 83 a n c 0 0 kv_slice
  cases s1 with
  | none =>
    have h0 : l.length = 0 := by
      rcases Nat.eq_zero_or_pos l.length with h | h
      · exact h
      · obtain ⟨g, off, c, hc, _⟩ := hl.here h; cases hc
    obtain rfl := List.eq_nil_of_length_eq_zero h0
    clear hl h0 la ma bl HL
    go_enter Tryz.func31, Tryz.ntmps31
    go_wp2
    go_ret
    exact ⟨_, rfl, OutAt.nil _ _, Fr.refl _ _⟩
  | some ad =>
    clear hl
    go_enter Tryz.func31, Tryz.ntmps31
    go_wp2_with (at_builtin; refine wpList_append_src rfl (.tmp 5) (.tmp 6) 39 83 (.agg #[.string ⟨#[]⟩, .string ⟨#[]⟩, .int .i64 0]) 3 40 rfl kv_slice kv_info rfl (by decide) (.slice (some ⟨w.heap.size, 0, none⟩) 0 0) 0 [] rfl (lies_empty w 83 3 _ rfl) (.slice (some ad) l.length c1) l.length (allC Kv.cells l) rfl (LIn.src (LIn.keep0 HL.out ((Fr.refl [] w).alloc (.cells #[] 83))) Kv.clen (by decide)) (allC_ones Kv.cone l) (by unfold maxLen; omega) (by omega) ?ap)
    case ap =>
    intro v' w' h1 h2 h3
    have HO : Hid (OutAt Kv.cells 83 3 w w' v' l) := Lib.hid ⟨h1, fun k hk => by
        rcases h3 k hk with h4 | h4
        · simp [Value.ownBlock] at h4; omega
        · omega⟩
    have HF : Hid (Fr [] w w') := Lib.hid (((Fr.refl [] w).alloc (.cells #[] 83)).trans h2 (by simp [Value.ownBlock]))
    clear h1 h2 h3
    go_wp2
    go_ret
    exact ⟨_, rfl, HO.out, HF.out⟩
/-- what is told of an entry -/
theorem fr_answer (s r h : Int) (ok : Bool) (a : Option Addr) (n c : Nat) (er ho : Int) (w : World) : Calls Tryz.prog 20 #[.agg #[.int .i64 s, .int .i64 r, .int .i64 h], .agg #[.bool ok, .slice a n c, .int .i64 er, .int .i64 ho]] w fun e w' =>
    e = .returned (.agg #[.int .i64 s, .int .i64 r, .int .i64 h, .int .i64 er, .bool (ok && decide (er = 0)), .slice none 0 0]) ∧ Fr [] w w' := by
  by_cases h0 : er = 0
  · subst h0
    go_enter Tryz.func20, Tryz.ntmps20
    go_wp2
    refine bodyPost_ret (v := .agg #[.int .i64 s, .int .i64 r, .int .i64 h, .int .i64 0, .bool ok, .slice none 0 0]) (by simp [results, Tryz.results20, go_sem]) rfl ?_
    refine ⟨by simp, ?_⟩
    repeat (first | (with_reducible exact Fr.refl _ _) | (with_reducible refine Fr.alloc ?_ _) | (with_reducible refine Fr.setCell ?_ (Or.inr (by simp)) _))
  · have HR : Hid (decide (er = 0) = false) := Lib.hid (by simpa using h0)
    have t1 : (er == 0) = false := by simpa using h0
    clear h0
    go_enter Tryz.func20, Tryz.ntmps20
    go_wp2
    refine bodyPost_ret (v := .agg #[.int .i64 s, .int .i64 r, .int .i64 h, .int .i64 er, .bool false, .slice none 0 0]) (by simp [results, Tryz.results20, go_sem]) rfl ?_
    refine ⟨by rw [HR.out, Bool.and_false], ?_⟩
    repeat (first | (with_reducible exact Fr.refl _ _) | (with_reducible refine Fr.alloc ?_ _) | (with_reducible refine Fr.setCell ?_ (Or.inr (by simp)) _))

theorem three_new (w : World) (o1 o2 o3 : Obj) : (((w.alloc o1).alloc o2).alloc o3).heap[w.heap.size]? = some o1 ∧ (((w.alloc o1).alloc o2).alloc o3).heap[w.heap.size + 1]? = some o2 ∧ (((w.alloc o1).alloc o2).alloc o3).heap[w.heap.size + 2]? = some o3 ∧ Fr [] w (((w.alloc o1).alloc o2).alloc o3) ∧ (((w.alloc o1).alloc o2).alloc o3).heap.size = w.heap.size + 3 := by
  have a1 : Fr [] (w.alloc o1) (((w.alloc o1).alloc o2).alloc o3) := ((Fr.refl [] _).alloc _).alloc _
  have a2 : Fr [] ((w.alloc o1).alloc o2) (((w.alloc o1).alloc o2).alloc o3) := (Fr.refl [] _).alloc _
  have b1 := new_block w o1
  have b2 := new_block (w.alloc o1) o2
  have b3 := new_block ((w.alloc o1).alloc o2) o3
  simp only [World.size_alloc] at b2 b3
  exact ⟨a1.keep b1 (by simp), a2.keep b2 (by simp), b3, (((Fr.refl [] w).alloc _).alloc _).alloc _, by simp⟩
def frL (rev r h : Int) (m : List Kv) : List Kv := if frE rev r h = 0 then m else []
theorem sets6 (w : World) (b : Nat) (a0 a1 a2 a3 a4 a5 : Value) : Fr [b] w ((((((w.setCell ⟨b, 0, none⟩ a0).setCell ⟨b, 1, none⟩ a1).setCell ⟨b, 2, none⟩ a2).setCell ⟨b, 3, none⟩ a3).setCell ⟨b, 4, none⟩ a4).setCell ⟨b, 5, none⟩ a5) := ((((((Fr.refl [b] w).setCell (p := ⟨b, 0, none⟩) (Or.inl (by simp)) a0).setCell (p := ⟨b, 1, none⟩) (Or.inl (by simp)) a1).setCell (p := ⟨b, 2, none⟩) (Or.inl (by simp)) a2).setCell (p := ⟨b, 3, none⟩) (Or.inl (by simp)) a3).setCell (p := ⟨b, 4, none⟩) (Or.inl (by simp)) a4).setCell (p := ⟨b, 5, none⟩) (Or.inl (by simp)) a5
set_option maxHeartbeats 2000000 in
theorem fr_read (q : Rq) (s1 s2 s3 : Option Addr) (n1 n2 n3 c1 c2 c3 : Nat) (mv : Value) (m : List Kv) (s r h : Int) (w : World) (hm : KvIn w mv m) (bm : m.length ≤ many) : Calls Tryz.prog 13 #[.agg #[.int .i64 q.kind, .string q.f, .string q.t, .int .i64 q.rev, .slice s1 n1 c1, .slice s2 n2 c2, .slice s3 n3 c3], mv, .agg #[.int .i64 s, .int .i64 r, .int .i64 h]] w fun e w' =>
    ∃ v, e = .returned (.agg #[.int .i64 s, .int .i64 r, .int .i64 h, .int .i64 (frE q.rev r h), .bool false, v]) ∧ KvIn w' v (frL q.rev r h m) ∧ (∀ k, v.ownBlock = some k → w.heap.size ≤ k) ∧ Fr [] w w' := by
  unfold many at bm
  have HM := Lib.hid hm
  obtain ⟨sm, cm, rfl, _, _⟩ := hm.form
  clear hm
  obtain ⟨wb, hwb⟩ : ∃ wb, wb = ((w.alloc (.cells #[.int .i64 q.kind, .string q.f, .string q.t, .int .i64 q.rev, .slice s1 n1 c1, .slice s2 n2 c2, .slice s3 n3 c3] 35)).alloc (.cells #[.int .i64 s, .int .i64 r, .int .i64 h] 29)).alloc (.cells #[.int .i64 0, .int .i64 0, .int .i64 0, .int .i64 0, .bool false, .slice none 0 0] 41) := ⟨_, rfl⟩
  have h0 := three_new w (.cells #[.int .i64 q.kind, .string q.f, .string q.t, .int .i64 q.rev, .slice s1 n1 c1, .slice s2 n2 c2, .slice s3 n3 c3] 35) (.cells #[.int .i64 s, .int .i64 r, .int .i64 h] 29) (.cells #[.int .i64 0, .int .i64 0, .int .i64 0, .int .i64 0, .bool false, .slice none 0 0] 41)
  rw [← hwb] at h0
  obtain ⟨_, hh, hr, hf, hz⟩ := h0
  have HWB := Lib.hid hwb
  have HH := Lib.hid hh
  have HRS := Lib.hid hr
  have HF := Lib.hid hf
  have HZ := Lib.hid hz
  have HE := Lib.hid (frE_cases q.rev r h)
  have HAT : Hid (∀ X, Calls Tryz.prog 10 #[.agg #[.int .i64 q.kind, .string q.f, .string q.t, .int .i64 q.rev, .slice s1 n1 c1, .slice s2 n2 c2, .slice s3 n3 c3], .agg #[.int .i64 s, .int .i64 r, .int .i64 h]] X fun e w' => e = .returned (.tuple #[.int .i64 (frV q.rev r h), .int .i64 (frE q.rev r h)]) ∧ Fr [] X w') := Lib.hid (fun X => fr_at q s1 s2 s3 n1 n2 n3 c1 c2 c3 s r h X)
  have HLL : Hid ((frE q.rev r h = 0 → frL q.rev r h m = m) ∧ (frE q.rev r h ≠ 0 → frL q.rev r h m = [])) := Lib.hid ⟨fun h => by unfold frL; rw [if_pos h], fun h => by unfold frL; rw [if_neg h]⟩
  obtain ⟨E, hE⟩ : ∃ E, frE q.rev r h = E := ⟨_, rfl⟩
  obtain ⟨V, hV⟩ : ∃ V, frV q.rev r h = V := ⟨_, rfl⟩
  obtain ⟨L, hL⟩ : ∃ L, frL q.rev r h m = L := ⟨_, rfl⟩
  rw [hE, hV] at HAT
  rw [hE, hV] at HE
  rw [hE, hL] at HLL
  rw [hE, hL]
  clear hwb hh hr hf hz hE hV hL
  go_enter Tryz.func13, Tryz.ntmps13
  go_wp2_with (go_at_call 10; rw [← HWB.out]; refine (HAT.out _).mono ?_; rintro e w1 ⟨rfl, hf⟩; refine go_stop ?_)
  unfold Stop
  have HF1 := Lib.hid (HF.out.trans hf (by simp))
  have HH1 := Lib.hid (hf.keep HH.out (by simp))
  have HR1 := Lib.hid (hf.keep HRS.out (by simp))
  have HM1 := Lib.hid (LIn.keep0 HM.out HF1.out)
  have hz1 := hf.size
  rw [HZ.out] at hz1
  obtain ⟨b0, b1, b2, _⟩ := cells3 HH1.out
  obtain ⟨u0, u1, u2, u3, u4, u5, uz⟩ := cells6 HR1.out
  have HZ1 := Lib.hid hz1
  clear hf hz1
  by_cases h0 : E = 0
  · subst h0
    have HLE := Lib.hid (HLL.out.1 rfl)
    clear HLL HAT HE
    go_wp2_with fail
    go_region_held3 (fun w' => w'.cell? ⟨w.heap.size + 1, 0, none⟩ = some (.int .i64 s) ∧ w'.cell? ⟨w.heap.size + 1, 1, none⟩ = some (.int .i64 r) ∧ w'.cell? ⟨w.heap.size + 1, 2, none⟩ = some (.int .i64 h)) (first | go_keep | (exact ⟨by assumption, by assumption, by assumption⟩)) (first | (go_at_call 31; refine (clone_kv _ m _ (LIn.keep0 HM1.out (by first | exact Fr.refl _ _ | exact (Fr.refl _ _).drew)) (by omega)).mono ?_; rintro e w2 ⟨v2, rfl, ho, hf⟩; obtain ⟨s4, c4, rfl, _, _⟩ := LAt.form ho.lies; have HF2 := Lib.hid (drew_trans hf); have HO := Lib.hid ho; obtain ⟨e0, e1, e2, _⟩ := cells3 (HF2.out.keep HH1.out (by simp)); obtain ⟨y0, y1, y2, y3, y4, y5, yz⟩ := cells6 (HF2.out.keep HR1.out (by simp)); clear ho hf))
    go_wp2_with fail
    refine bodyPost_ret (v := .agg #[.int .i64 s, .int .i64 r, .int .i64 h, .int .i64 0, .bool false, .slice s4 m.length c4]) (by simp [results, Tryz.results13, go_sem, *]) rfl ?_
    have hn := sets6 w2 (w.heap.size + 1 + 1) (.int .i64 s) (.int .i64 r) (.int .i64 h) (.int .i64 0) (.bool false) (.slice s4 m.length c4)
    have hg := HZ1.out
    refine ⟨_, rfl, ?_, fun k hk => ?_, (HF1.out.trans HF2.out (by simp)).trans hn (fun k hk => Or.inr (by simp at hk; omega))⟩
    · rw [HLE.out]
      exact LAt.read (LAt.keep HO.out.lies hn (fun k hk => by have h9 : w1.heap.size ≤ k := HO.out.new k hk; simp; omega)) Kv.clen
    · have h9 : w1.heap.size ≤ k := HO.out.new k hk
      omega
  · have HLE := Lib.hid (HLL.out.2 h0)
    have t1 : (E == 0) = false := by simpa using h0
    clear HLL HAT HE h0
    go_wp2_with fail
    refine bodyPost_ret (v := .agg #[.int .i64 s, .int .i64 r, .int .i64 h, .int .i64 E, .bool false, .slice none 0 0]) (by simp [results, Tryz.results13, go_sem, *]) rfl ?_
    have hn := sets6 w1 (w.heap.size + 1 + 1) (.int .i64 s) (.int .i64 r) (.int .i64 h) (.int .i64 E) (.bool false) (.slice none 0 0)
    refine ⟨_, rfl, by rw [HLE.out]; exact LIn.nil _, fun k hk => by simp [Value.ownBlock] at hk, HF1.out.trans hn (fun k hk => Or.inr (by simp at hk; omega))⟩

theorem planL_len (m : List Kv) (q : Rq) : (planL m q).length ≤ q.thn.length + q.els.length := by
  unfold planL
  refine Nat.le_trans (List.length_filter_le _ _) ?_
  split <;> omega
theorem chP_cases (q : Rq) (m : List Kv) (r h : Int) : (planL m q = [] ∧ chP q m r h = ⟨holdsC m q.cmps, [], 0, 0⟩) ∨ (planL m q ≠ [] ∧ roomE r h = 0 ∧ chP q m r h = ⟨holdsC m q.cmps, evL (wrap64 (r + 1)) (planL m q), 0, 0⟩) ∨ (planL m q ≠ [] ∧ roomE r h ≠ 0 ∧ chP q m r h = ⟨false, [], roomE r h, 0⟩) := by
  unfold chP
  by_cases h1 : planL m q = []
  · exact Or.inl ⟨h1, by rw [if_pos h1]⟩
  · by_cases h2 : roomE r h = 0
    · exact Or.inr (Or.inl ⟨h1, h2, by rw [if_neg h1, if_pos h2]⟩)
    · exact Or.inr (Or.inr ⟨h1, h2, by rw [if_neg h1, if_neg h2]⟩)
theorem sets4 (w : World) (b : Nat) (a0 a1 a2 a3 : Value) : Fr [b] w ((((w.setCell ⟨b, 0, none⟩ a0).setCell ⟨b, 1, none⟩ a1).setCell ⟨b, 2, none⟩ a2).setCell ⟨b, 3, none⟩ a3) := ((((Fr.refl [b] w).setCell (p := ⟨b, 0, none⟩) (Or.inl (by simp)) a0).setCell (p := ⟨b, 1, none⟩) (Or.inl (by simp)) a1).setCell (p := ⟨b, 2, none⟩) (Or.inl (by simp)) a2).setCell (p := ⟨b, 3, none⟩) (Or.inl (by simp)) a3
set_option maxHeartbeats 4000000 in
theorem fr_change (q : Rq) (cv tv ev mv : Value) (m : List Kv) (s r h : Int) (w : World) (hm : KvIn w mv m) (hs : Srt Kv.key m) (hq : RqIn w q cv tv ev) (bm : m.length ≤ many) (b0 : q.cmps.length ≤ many) (b1 : q.thn.length ≤ 400000000) (b2 : q.els.length ≤ 400000000) :
    Calls Tryz.prog 33 #[.agg #[.int .i64 q.kind, .string q.f, .string q.t, .int .i64 q.rev, cv, tv, ev], mv, .agg #[.int .i64 s, .int .i64 r, .int .i64 h]] w fun e w' =>
      ∃ v, e = .returned ((chP q m r h).val v) ∧ EvIn w' v (chP q m r h).rows ∧ (∀ k, v.ownBlock = some k → w.heap.size ≤ k) ∧ Fr [] w w' := by
  obtain ⟨s1, c1, rfl, la1, ma1⟩ := LIn.form hq.c
  obtain ⟨s2, c2, rfl, la2, ma2⟩ := LIn.form hq.t
  obtain ⟨s3, c3, rfl, la3, ma3⟩ := LIn.form hq.e
  obtain ⟨sm, cm, rfl, _, _⟩ := LIn.form hm
  have HPL : Hid (∀ X, Fr [] w X → Calls Tryz.prog 47 #[.slice sm m.length cm, .agg #[.int .i64 q.kind, .string q.f, .string q.t, .int .i64 q.rev, .slice s1 q.cmps.length c1, .slice s2 q.thn.length c2, .slice s3 q.els.length c3]] X fun e w' => ∃ s4 c4, e = .returned (.tuple #[.bool (holdsC m q.cmps), .slice s4 (planL m q).length c4]) ∧ OdIn w' (.slice s4 (planL m q).length c4) (planL m q) ∧ Fr [] X w') := Lib.hid fun X hX => by
    refine (txn_plan _ m q _ _ _ X (LIn.keep0 hm hX) hs (hq.keep0 hX) bm b0 (by unfold many; omega) (by unfold many; omega)).mono ?_
    rintro e w' ⟨v, rfl, k1, _, k2⟩
    obtain ⟨s4, c4, rfl, _, _⟩ := LIn.form k1
    exact ⟨s4, c4, rfl, k1, k2⟩
  have HCH := Lib.hid (chP_cases q m r h)
  have hpl := planL_len m q
  obtain ⟨P, hP⟩ : ∃ P, chP q m r h = P := ⟨_, rfl⟩
  obtain ⟨E, hE⟩ : ∃ E, roomE r h = E := ⟨_, rfl⟩
  obtain ⟨O, hO⟩ : ∃ O, planL m q = O := ⟨_, rfl⟩
  obtain ⟨K, hK⟩ : ∃ K, holdsC m q.cmps = K := ⟨_, rfl⟩
  rw [hP]
  rw [hP, hE, hO, hK] at HCH
  rw [hO, hK] at HPL
  rw [hO] at hpl
  have HRM : Hid (∀ X, Calls Tryz.prog 52 #[.agg #[.int .i64 s, .int .i64 r, .int .i64 h]] X fun e w' => e = .returned (.int .i64 E) ∧ Fr [] X w') := Lib.hid (fun X => by rw [← hE]; exact fr_room s r h X)
  clear hP hE hO hK hm hq hs
  obtain ⟨wb, hwb⟩ : ∃ wb, wb = ((w.alloc (.cells #[.int .i64 q.kind, .string q.f, .string q.t, .int .i64 q.rev, .slice s1 q.cmps.length c1, .slice s2 q.thn.length c2, .slice s3 q.els.length c3] 35)).alloc (.cells #[.int .i64 s, .int .i64 r, .int .i64 h] 29)).alloc (.cells #[.bool false, .slice none 0 0, .int .i64 0, .int .i64 0] 52) := ⟨_, rfl⟩
  have h0 := three_new w (.cells #[.int .i64 q.kind, .string q.f, .string q.t, .int .i64 q.rev, .slice s1 q.cmps.length c1, .slice s2 q.thn.length c2, .slice s3 q.els.length c3] 35) (.cells #[.int .i64 s, .int .i64 r, .int .i64 h] 29) (.cells #[.bool false, .slice none 0 0, .int .i64 0, .int .i64 0] 52)
  rw [← hwb] at h0
  obtain ⟨hr, hh, hp, hf, hz⟩ := h0
  have HWB := Lib.hid hwb
  have HH := Lib.hid hh
  have HQ := Lib.hid hr
  have HPB := Lib.hid hp
  have HF := Lib.hid hf
  have HZ := Lib.hid hz
  clear hwb hh hr hp hf hz
  go_enter Tryz.func33, Tryz.ntmps33
  go_wp2_with (go_at_call 47; rw [← HWB.out]; refine (HPL.out _ HF.out).mono ?_; rintro e w1 ⟨s4, c4, rfl, ho, hf⟩; refine go_stop ?_)
  unfold Stop
  have HO := Lib.hid ho
  have HF1 := Lib.hid (HF.out.trans hf (by simp))
  have HH1 := Lib.hid (hf.keep HH.out (by simp))
  have HP1 := Lib.hid (hf.keep HPB.out (by simp))
  have hz1 := hf.size
  rw [HZ.out] at hz1
  obtain ⟨b0, b1, b2, _⟩ := cells3 HH1.out
  obtain ⟨u0, u1, u2, u3, uz⟩ := cells4 HP1.out
  have HZ1 := Lib.hid hz1
  clear hf hz1 ho HPL
  rcases HCH.out with ⟨rfl, hp⟩ | ⟨hne, rfl, hp⟩ | ⟨hne, her, hp⟩
  · have HP := Lib.hid hp
    clear hp HCH
    go_wp2_with fail
    refine bodyPost_ret (v := .agg #[.bool K, .slice none 0 0, .int .i64 0, .int .i64 0]) (by simp [results, Tryz.results33, go_sem, *]) rfl ?_
    have hn := sets4 w1 (w.heap.size + 1 + 1) (.bool K) (.slice none 0 0) (.int .i64 0) (.int .i64 0)
    have hg := HZ1.out
    refine ⟨_, by rw [HP.out]; rfl, ?_, ?_, HF1.out.trans hn (fun k hk => Or.inr (by simp at hk; omega))⟩
    · rw [HP.out]; exact LIn.nil _
    · intro k hk; simp [Value.ownBlock] at hk

  all_goals
    have hpos : 0 < O.length := List.length_pos_iff.2 hne
    have t1 : ((O.length : Int) == 0) = false := beq_eq_false_iff_ne.2 (by omega)
    have HP := Lib.hid hp
    clear hp HCH hne
    go_wp2_with (go_at_call 52; refine (HRM.out _).mono ?_; rintro e w2 ⟨rfl, hf⟩; refine go_stop ?_)
    unfold Stop
    have HF2 := Lib.hid (HF1.out.trans hf (by simp))
    have HH2 := Lib.hid (hf.keep HH1.out (by simp))
    have HP2 := Lib.hid (hf.keep HP1.out (by simp))
    have HO2 := Lib.hid (LIn.keep0 HO.out hf)
    have HZ2 : Hid (w.heap.size + 3 ≤ w2.heap.size) := Lib.hid (Nat.le_trans HZ1.out hf.size)
    clear hf b0 b1 b2 u0 u1 u2 u3 uz HO
    obtain ⟨b0, b1, b2, _⟩ := cells3 HH2.out
    obtain ⟨u0, u1, u2, u3, uz⟩ := cells4 HP2.out
  · go_wp2_with (go_at_call 53; refine (fr_events _ _ O _ HO2.out (by unfold many; omega)).mono ?_; rintro e w3 ⟨v3, rfl, ho, hf⟩; obtain ⟨s5, c5, rfl, _, _⟩ := LAt.form ho.lies; refine go_stop ?_)
    unfold Stop
    have HP3 := Lib.hid (hf.keep HP2.out (by simp))
    have HF3 := Lib.hid (HF2.out.trans hf (by simp))
    have HO3 := Lib.hid ho
    clear hf ho b0 b1 b2 u0 u1 u2 u3 uz
    obtain ⟨u0, u1, u2, u3, uz⟩ := cells4 HP3.out
    go_wp2_with fail
    refine bodyPost_ret (v := .agg #[.bool K, .slice s5 (evL (wrap64 (r + 1)) O).length c5, .int .i64 0, .int .i64 0]) (by simp [results, Tryz.results33, go_sem, *]) rfl ?_
    have hn := sets4 w3 (w.heap.size + 1 + 1) (.bool K) (.slice s5 (evL (wrap64 (r + 1)) O).length c5) (.int .i64 0) (.int .i64 0)
    have hg := HZ1.out
    refine ⟨_, by rw [HP.out]; rfl, ?_, ?_, HF3.out.trans hn (fun k hk => Or.inr (by simp at hk; omega))⟩
    · rw [HP.out]; exact LAt.read (LAt.keep HO3.out.lies hn (fun k hk => by have h9 : w2.heap.size ≤ k := HO3.out.new k hk; have := HZ2.out; simp; omega)) Ev.clen
    · intro k hk; have h9 : w2.heap.size ≤ k := HO3.out.new k hk; have := HZ2.out; omega

  · have t2 : (E == 0) = false := by simpa using her
    clear her
    go_wp2_with fail
    refine bodyPost_ret (v := .agg #[.bool false, .slice none 0 0, .int .i64 E, .int .i64 0]) (by simp [results, Tryz.results33, go_sem, *]) rfl ?_
    have hn := sets4 w2 (w.heap.size + 1 + 1) (.bool false) (.slice none 0 0) (.int .i64 E) (.int .i64 0)
    have hg := HZ1.out
    refine ⟨_, by rw [HP.out]; rfl, ?_, ?_, HF2.out.trans hn (fun k hk => Or.inr (by simp at hk; omega))⟩
    · rw [HP.out]; exact LIn.nil _
    · intro k hk; simp [Value.ownBlock] at hk


theorem decP_cases (q : Rq) (m : List Kv) (r h : Int) : (q.kind = 1 ∧ decP q m r h = chP q m r h) ∨ (q.kind ≠ 1 ∧ q.kind = 3 ∧ decP q m r h = coP q.rev r) ∨ (q.kind ≠ 1 ∧ q.kind ≠ 3 ∧ decP q m r h = ⟨false, [], 0, 0⟩) := by
  unfold decP
  by_cases h1 : q.kind = 1
  · exact Or.inl ⟨h1, by rw [if_pos h1]⟩
  · by_cases h2 : q.kind = 3
    · exact Or.inr (Or.inl ⟨h1, h2, by rw [if_neg h1, if_pos h2]⟩)
    · exact Or.inr (Or.inr ⟨h1, h2, by rw [if_neg h1, if_neg h2]⟩)
theorem coP_rows (rev r : Int) : (coP rev r).rows = [] := by unfold coP; split <;> rfl
set_option maxHeartbeats 4000000 in
theorem fr_decide (q : Rq) (cv tv ev mv : Value) (m : List Kv) (s r h : Int) (w : World) (hm : KvIn w mv m) (hs : Srt Kv.key m) (hq : RqIn w q cv tv ev) (bm : m.length ≤ many) (b0 : q.cmps.length ≤ many) (b1 : q.thn.length ≤ 400000000) (b2 : q.els.length ≤ 400000000) :
    Calls Tryz.prog 15 #[.agg #[.int .i64 q.kind, .string q.f, .string q.t, .int .i64 q.rev, cv, tv, ev], mv, .agg #[.int .i64 s, .int .i64 r, .int .i64 h]] w fun e w' =>
      ∃ v, e = .returned ((decP q m r h).val v) ∧ EvIn w' v (decP q m r h).rows ∧ (∀ k, v.ownBlock = some k → w.heap.size ≤ k) ∧ Fr [] w w' := by
  obtain ⟨s1, c1, rfl, la1, ma1⟩ := LIn.form hq.c
  obtain ⟨s2, c2, rfl, la2, ma2⟩ := LIn.form hq.t
  obtain ⟨s3, c3, rfl, la3, ma3⟩ := LIn.form hq.e
  obtain ⟨sm, cm, rfl, _, _⟩ := LIn.form hm
  have HCG : Hid (∀ X, Fr [] w X → Calls Tryz.prog 33 #[.agg #[.int .i64 q.kind, .string q.f, .string q.t, .int .i64 q.rev, .slice s1 q.cmps.length c1, .slice s2 q.thn.length c2, .slice s3 q.els.length c3], .slice sm m.length cm, .agg #[.int .i64 s, .int .i64 r, .int .i64 h]] X fun e w' => ∃ v, e = .returned ((chP q m r h).val v) ∧ EvIn w' v (chP q m r h).rows ∧ (∀ k, v.ownBlock = some k → X.heap.size ≤ k) ∧ Fr [] X w') := Lib.hid fun X hX =>
    fr_change q _ _ _ _ m s r h X (LIn.keep0 hm hX) hs (hq.keep0 hX) bm b0 b1 b2
  have HCO : Hid (∀ X, Calls Tryz.prog 34 #[.int .i64 q.rev, .int .i64 r] X fun e w' => e = .returned ((coP q.rev r).val (.slice none 0 0)) ∧ Fr [] X w') := Lib.hid fun X => fr_compact q.rev r X
  have HCR := Lib.hid (coP_rows q.rev r)
  have HDC := Lib.hid (decP_cases q m r h)
  obtain ⟨P, hP⟩ : ∃ P, decP q m r h = P := ⟨_, rfl⟩
  obtain ⟨C, hC⟩ : ∃ C, chP q m r h = C := ⟨_, rfl⟩
  obtain ⟨D, hD⟩ : ∃ D, coP q.rev r = D := ⟨_, rfl⟩
  rw [hC] at HCG
  rw [hD] at HCO HCR
  rw [hP, hC, hD] at HDC
  rw [hP]
  clear hP hC hD hm hq hs
  obtain ⟨wb, hwb⟩ : ∃ wb, wb = ((w.alloc (.cells #[.int .i64 q.kind, .string q.f, .string q.t, .int .i64 q.rev, .slice s1 q.cmps.length c1, .slice s2 q.thn.length c2, .slice s3 q.els.length c3] 35)).alloc (.cells #[.int .i64 s, .int .i64 r, .int .i64 h] 29)).alloc (.cells #[.bool false, .slice none 0 0, .int .i64 0, .int .i64 0] 52) := ⟨_, rfl⟩
  have h0 := three_new w (.cells #[.int .i64 q.kind, .string q.f, .string q.t, .int .i64 q.rev, .slice s1 q.cmps.length c1, .slice s2 q.thn.length c2, .slice s3 q.els.length c3] 35) (.cells #[.int .i64 s, .int .i64 r, .int .i64 h] 29) (.cells #[.bool false, .slice none 0 0, .int .i64 0, .int .i64 0] 52)
  rw [← hwb] at h0
  obtain ⟨hr, hh, hp, hf, hz⟩ := h0
  have HWB := Lib.hid hwb
  have HPB := Lib.hid hp
  have HF := Lib.hid hf
  have HZ := Lib.hid hz
  clear hwb hh hr hp hf hz
  rcases HDC.out with ⟨hk, hp⟩ | ⟨hk, hk3, hp⟩ | ⟨hk, hk3, hp⟩
  · have HP := Lib.hid hp
    have t1 : (q.kind == 1) = true := by simpa using hk
    clear hp HDC hk
    go_enter Tryz.func15, Tryz.ntmps15
    go_wp2_with (go_at_call 33; rw [← HWB.out]; refine (HCG.out _ HF.out).mono ?_; rintro e w1 ⟨v, rfl, ho, hn, hf⟩; obtain ⟨s4, c4, rfl, _, _⟩ := LIn.form ho; refine go_stop ?_)
    unfold Stop
    have HO := Lib.hid ho
    have HN := Lib.hid hn
    have HF1 := Lib.hid (HF.out.trans hf (by simp))
    obtain ⟨u0, u1, u2, u3, uz⟩ := cells4 (hf.keep HPB.out (by simp))
    have HLT := Lib.hid hf.size
    have HOL : Hid (0 < C.rows.length → ∀ k, (Value.slice s4 C.rows.length c4).ownBlock = some k → w.heap.size + 3 ≤ k) := Lib.hid (fun _ k hk => by have := hn k hk; have := HZ.out; omega)
    clear ho hn hf
    unfold Pl.val
    go_wp2_with fail
    refine bodyPost_ret (v := .agg #[.bool C.ok, .slice s4 C.rows.length c4, .int .i64 C.err, .int .i64 C.hor]) (by simp [results, Tryz.results15, go_sem, *]) rfl ?_
    have hn := sets4 w1 (w.heap.size + 1 + 1) (.bool C.ok) (.slice s4 C.rows.length c4) (.int .i64 C.err) (.int .i64 C.hor)
    refine ⟨_, by rw [HP.out]; rfl, ?_, ?_, HF1.out.trans hn (fun k hk => Or.inr (by simp at hk; omega))⟩
    · rw [HP.out]
      exact (LFar.keep (S := [w.heap.size + 1 + 1]) ⟨HO.out, fun hl k hk hm => by have := HOL.out hl k hk; simp at hm; omega⟩ hn).lin
    · intro k hk; have := HN.out k hk; have := HZ.out; omega
  · have HP := Lib.hid hp
    have t1 : (q.kind == 1) = false := by simpa using hk
    have t2 : (q.kind == 3) = true := by simpa using hk3
    clear hp HDC hk hk3
    go_enter Tryz.func15, Tryz.ntmps15
    go_wp2_with (go_at_call 34; rw [← HWB.out]; refine (HCO.out _).mono ?_; rintro e w1 ⟨rfl, hf⟩; refine go_stop ?_)
    unfold Stop
    have HF1 := Lib.hid (HF.out.trans hf (by simp))
    obtain ⟨u0, u1, u2, u3, uz⟩ := cells4 (hf.keep HPB.out (by simp))
    clear hf
    unfold Pl.val
    go_wp2_with fail
    refine bodyPost_ret (v := .agg #[.bool D.ok, .slice none 0 0, .int .i64 D.err, .int .i64 D.hor]) (by simp [results, Tryz.results15, go_sem, *]) rfl ?_
    have hn := sets4 w1 (w.heap.size + 1 + 1) (.bool D.ok) (.slice none 0 0) (.int .i64 D.err) (.int .i64 D.hor)
    refine ⟨_, by rw [HP.out]; rfl, by rw [HP.out, HCR.out]; exact LIn.nil _, by intro k hk; simp [Value.ownBlock] at hk, HF1.out.trans hn (fun k hk => Or.inr (by simp at hk; omega))⟩
  · have HP := Lib.hid hp
    have t1 : (q.kind == 1) = false := by simpa using hk
    have t2 : (q.kind == 3) = false := by simpa using hk3
    clear hp HDC hk hk3
    go_enter Tryz.func15, Tryz.ntmps15
    go_wp2_with fail
    refine bodyPost_ret (v := .agg #[.bool false, .slice none 0 0, .int .i64 0, .int .i64 0]) (by simp [results, Tryz.results15, go_sem, *]) rfl ?_
    refine ⟨_, by rw [HP.out]; rfl, by rw [HP.out]; exact LIn.nil _, by intro k hk; simp [Value.ownBlock] at hk, ?_⟩
    repeat (first | (with_reducible exact Fr.refl _ _) | (with_reducible refine Fr.alloc ?_ _) | (with_reducible refine Fr.setCell ?_ (Or.inr (by simp)) _))
end Go.Proofs.YtmipllkgioakoaaGreat
