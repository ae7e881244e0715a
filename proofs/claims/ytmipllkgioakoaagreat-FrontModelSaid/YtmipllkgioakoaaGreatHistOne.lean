/- PACKAGE hist: contracts of last, next, horizon, raise, within, made, has, New, Rev, Hor, and of a Hist that is nil
PACKAGE hist: contracts of New, Rev, Hor, and of a Hist that is nil -/
import Derived.Test.YtmipllkgioakoaaGreatHistAt
namespace Go.Proofs.YtmipllkgioakoaaGreat
open Go.RowKit Go.Maps
set_option linter.unusedVariables false
set_option linter.unusedSimpArgs false

theorem span_last {w : World} {p : Nat} {r : Int} (c1 : w.cell? ⟨p, 1, none⟩ = some (.int .i64 r)) : Calls Tryz.prog 32 #[.pointer (some ⟨p, 0, none⟩)] w fun e w' => e = .returned (.int .i64 r) ∧ w = w' := by
  go_enter Tryz.func32, Tryz.ntmps32
  go_wp2
  go_ret
  exact ⟨rfl, rfl⟩
theorem span_hor {w : World} {p : Nat} {r : Int} (c1 : w.cell? ⟨p, 0, none⟩ = some (.int .i64 r)) : Calls Tryz.prog 26 #[.pointer (some ⟨p, 0, none⟩)] w fun e w' => e = .returned (.int .i64 r) ∧ w = w' := by
  go_enter Tryz.func26, Tryz.ntmps26
  go_wp2
  go_ret
  exact ⟨rfl, rfl⟩
theorem span_next {w : World} {p : Nat} {r : Int} (c1 : w.cell? ⟨p, 1, none⟩ = some (.int .i64 r)) (f1 : w.frozen? ⟨p, 1, none⟩ = false) (hr : r ≤ 1000000 ∧ -1000000 ≤ r) : Calls Tryz.prog 36 #[.pointer (some ⟨p, 0, none⟩)] w fun e w' => e = .returned (.int .i64 (r + 1)) ∧ w' = w.setCell ⟨p, 1, none⟩ (.int .i64 (r + 1)) := by
  have hp : p < w.heap.size := World.block_lt_of_cell? w ⟨p, 1, none⟩ c1
  have c2 : (w.setCell ⟨p, 1, none⟩ (.int .i64 (r + 1))).cell? ⟨p, 1, none⟩ = some (.int .i64 (r + 1)) := cs_same _ c1
  go_enter Tryz.func36, Tryz.ntmps36
  go_wp2
  go_ret
  exact ⟨rfl, rfl⟩
theorem span_raise {w : World} {p : Nat} {r : Int} (c1 : w.cell? ⟨p, 0, none⟩ = some (.int .i64 r)) (f1 : w.frozen? ⟨p, 0, none⟩ = false) (hr : r ≤ 1000000 ∧ -1000000 ≤ r) : Calls Tryz.prog 38 #[.pointer (some ⟨p, 0, none⟩)] w fun e w' => e = .returned (.int .i64 (r + 1)) ∧ w' = w.setCell ⟨p, 0, none⟩ (.int .i64 (r + 1)) := by
  have hp : p < w.heap.size := World.block_lt_of_cell? w ⟨p, 0, none⟩ c1
  have c2 : (w.setCell ⟨p, 0, none⟩ (.int .i64 (r + 1))).cell? ⟨p, 0, none⟩ = some (.int .i64 (r + 1)) := cs_same _ c1
  go_enter Tryz.func38, Tryz.ntmps38
  go_wp2
  go_ret
  exact ⟨rfl, rfl⟩
def withinE (first rev last : Int) : Int := if rev < first then 5 else if last < rev then 6 else 0
theorem span_within {w : World} {p : Nat} {r : Int} (first rev : Int) (c1 : w.cell? ⟨p, 1, none⟩ = some (.int .i64 r)) : Calls Tryz.prog 25 #[.pointer (some ⟨p, 0, none⟩), .int .i64 first, .int .i64 rev] w fun e w' => e = .returned (.int .i64 (withinE first rev r)) ∧ w = w' := by
  have HV : Hid (∀ x, withinE first rev r = x → withinE first rev r = x) := Lib.hid (fun _ h => h)
  by_cases h1 : rev < first
  · have t1 : decide (rev < first) = true := by simpa using h1
    have HE : Hid (withinE first rev r = 5) := Lib.hid (by unfold withinE; rw [if_pos h1])
    go_enter Tryz.func25, Tryz.ntmps25
    go_wp2
    go_ret
    exact ⟨(by rw [HE.out]; rfl), rfl⟩
  · have t1 : decide (rev < first) = false := by simpa using h1
    by_cases h2 : r < rev
    · have t2 : decide (r < rev) = true := by simpa using h2
      have HE : Hid (withinE first rev r = 6) := Lib.hid (by unfold withinE; rw [if_neg h1, if_pos h2])
      go_enter Tryz.func25, Tryz.ntmps25
      go_wp2_with (go_at_call 32; refine (span_last c1).mono ?_; rintro e w1 ⟨rfl, rfl⟩)
      go_ret
      exact ⟨(by rw [HE.out]; rfl), rfl⟩
    · have t2 : decide (r < rev) = false := by simpa using h2
      have HE : Hid (withinE first rev r = 0) := Lib.hid (by unfold withinE; rw [if_neg h1, if_neg h2])
      go_enter Tryz.func25, Tryz.ntmps25
      go_wp2_with (go_at_call 32; refine (span_last c1).mono ?_; rintro e w1 ⟨rfl, rfl⟩)
      go_ret
      exact ⟨(by rw [HE.out]; rfl), rfl⟩
theorem hist_made (o : Od) (rev : Int) (w : World) : Calls Tryz.prog 55 #[.agg #[.string o.key, .string o.val, .bool o.del], .int .i64 rev] w fun e w' => e = .returned (o.ev rev).agg ∧ Fr [] w w' := by
  have hv : Hid ((o.del = true → (o.ev rev).agg = .agg #[.int .i64 rev, .string o.key, .string ⟨#[]⟩, .bool true]) ∧ (o.del = false → (o.ev rev).agg = .agg #[.int .i64 rev, .string o.key, .string o.val, .bool false])) :=
    Lib.hid ⟨fun h => by simp [Od.ev, Ev.agg, h], fun h => by simp [Od.ev, Ev.agg, h]⟩
  cases hd : o.del
  · have HD := Lib.hid hd
    clear hd
    go_enter Tryz.func55, Tryz.ntmps55
    go_wp2
    refine bodyPost_ret (v := .agg #[.int .i64 rev, .string o.key, .string o.val, .bool false]) (by simp [results, Tryz.results55, go_sem]) rfl ?_
    exact ⟨by rw [hv.out.2 HD.out], ((Fr.refl _ _).alloc _).alloc _⟩
  · have HD := Lib.hid hd
    clear hd
    go_enter Tryz.func55, Tryz.ntmps55
    go_wp2
    refine bodyPost_ret (v := .agg #[.int .i64 rev, .string o.key, .string ⟨#[]⟩, .bool true]) (by simp [results, Tryz.results55, go_sem]) rfl ?_
    exact ⟨by rw [hv.out.1 HD.out], ((Fr.refl _ _).alloc _).alloc _⟩

set_option maxRecDepth 100000 in
set_option maxHeartbeats 2000000 in
theorem hist_has {w : World} {p : Nat} {S : List Nat} {rows : List (List Ev)} {hor : Nat} {V : ByteArray → List Ev} {rm km n1 n2 : Nat} {R : Int → Option Value} {M : ByteArray → Option Value} (h : HsAt w p S rows hor V rm km n1 n2 R M) (k : ByteArray) (hk : k.size ≤ maxLen) (hV : (V k).length ≤ many) :
    Calls Tryz.prog 54 #[.pointer (some ⟨p, 0, none⟩), .string k] w fun e w' => e = .returned (.bool (thereV (V k) rows.length)) ∧ Fr [] w w' := by
  obtain ⟨c0, c1, c2, c3, _⟩ := cells4 h.blk
  obtain ⟨v, hv⟩ : ∃ v, v = (M k).getD (.slice none 0 0) := ⟨_, rfl⟩
  have hat := h.get k
  rw [← hv] at hat
  have hlk : ∀ X, Fr [] w X → (Instr.lookup 69 (.map (some km)) (.string k) false).run Tryz.prog X = .ok v X := fun X hX => by
    rw [hv]; exact (h.kmap.keep hX (by simp)).look KS keys_map (zero_vers _) rfl hk
  have k1 := hlk w.drew ((Fr.refl [] w).drew)
  have k2 := hlk (w.alloc (.cells #[.int .i64 0, .string ⟨#[]⟩, .string ⟨#[]⟩, .bool false] 63)).drew (((Fr.refl [] w).alloc _).drew)
  obtain ⟨x, hx⟩ : ∃ x : Ev, x = (atV (V k) rows.length).getD Ev.zero := ⟨_, rfl⟩
  obtain ⟨b, hb⟩ : ∃ b, b = (atV (V k) rows.length).isSome := ⟨_, rfl⟩
  have HT : Hid ((b && !x.del) = thereV (V k) rows.length) := Lib.hid (by
    rw [hx, hb]; unfold thereV; cases atV (V k) rows.length <;> rfl)
  have HC : Hid (∀ X, Fr [] w X → Calls Tryz.prog 28 #[v, .int .i64 rows.length] X fun e w' => e = .returned (.tuple #[.agg #[.int .i64 x.rev, .string x.key, .string x.val, .bool x.del], .bool b]) ∧ Fr [] X w') :=
    Lib.hid (fun X hX => (ver_at v (V k) rows.length X (LIn.keep0 hat.read hX) hV).mono fun e w' hh => by rw [hx, hb]; exact hh)
  have hpl := lt_of_block h.blk
  have np : ¬ w.heap.size = p := by omega
  have np2 : ¬ p = w.heap.size := by omega
  have HPL := Lib.hid hpl
  clear hpl
  have HCELL : Hid (∀ X, Fr [] w X → X.cell? ⟨p, 3, none⟩ = some (.map (some km)) ∧ X.cell? ⟨p, 1, none⟩ = some (.int .i64 rows.length)) := Lib.hid (fun X hX => ⟨hX.cell c3 (by simp), hX.cell c1 (by simp)⟩)
  clear h hv hat hlk hV hx hb
  go_enter Tryz.func54, Tryz.ntmps54
  go_wp2_with fail
  go_region_held3 (fun w' => w'.cell? ⟨p, 3, none⟩ = some (.map (some km)) ∧ w'.cell? ⟨p, 1, none⟩ = some (.int .i64 rows.length)) (go_keep) (first
    | (go_at_call 32; refine (span_last (r := rows.length) ((HCELL.out _ (by first | exact (Fr.refl [] w).drew | exact ((Fr.refl [] w).drew).alloc _)).2)).mono ?_; rintro e w1 ⟨rfl, rfl⟩)
    | (go_at_call 28; refine (HC.out _ (by first | exact (Fr.refl [] w).drew | exact ((Fr.refl [] w).drew).alloc _)).mono ?_; rintro e w1 ⟨rfl, hf⟩; (first | (have hq := cells4 (p := w.heap.size) (hf.keep (new_block w.drew (.cells #[.int .i64 0, .string ⟨#[]⟩, .string ⟨#[]⟩, .bool false] 63)) (by simp)); have hfw := ((Fr.refl [] w).drew.alloc _).trans hf (by simp); obtain ⟨q0, q1, q2, q3, qf⟩ := hq) | (have hfw := (Fr.refl [] w).drew.trans hf (by simp))); obtain ⟨r3, r1⟩ := HCELL.out w1 hfw; have np3 : ¬ w1.heap.size = p := (by have := HPL.out; have := hfw.size; omega)))
  all_goals clear c0 c1 c2 c3 k1 k2 HC HCELL
  all_goals cases b
  all_goals go_wp2
  all_goals go_ret
  all_goals refine ⟨(by rw [← HT.out]; rfl), ?_⟩
  all_goals (first | exact hfw.alloc _ | exact hfw.set4 (Nat.le_refl _) _ _ _ _)
end Go.Proofs.YtmipllkgioakoaaGreat
namespace Go.Proofs.YtmipllkgioakoaaGreat
open Go.RowKit Go.Maps
set_option linter.unusedVariables false
set_option linter.unusedSimpArgs false

theorem hist_rev {w : World} {p : Nat} {S : List Nat} {H : HA} (h : Hs w p S H) : Calls Tryz.prog 14 #[.pointer (some ⟨p, 0, none⟩)] w fun e w' => e = .returned (.int .i64 H.rows.length) ∧ w = w' := by
  obtain ⟨_, rm, km, n1, n2, R, M, _, _, h⟩ := h
  obtain ⟨c0, c1, c2, c3, _⟩ := cells4 h.blk
  clear h
  go_enter Tryz.func14, Tryz.ntmps14
  go_wp2_with (go_at_call 32; refine (span_last c1).mono ?_; rintro e w1 ⟨rfl, rfl⟩)
  go_ret
  exact ⟨rfl, rfl⟩
theorem hist_hor {w : World} {p : Nat} {S : List Nat} {H : HA} (h : Hs w p S H) : Calls Tryz.prog 58 #[.pointer (some ⟨p, 0, none⟩)] w fun e w' => e = .returned (.int .i64 H.hor) ∧ w = w' := by
  obtain ⟨_, rm, km, n1, n2, R, M, _, _, h⟩ := h
  obtain ⟨c0, c1, c2, c3, _⟩ := cells4 h.blk
  clear h
  go_enter Tryz.func58, Tryz.ntmps58
  go_wp2_with (go_at_call 26; refine (span_hor c0).mono ?_; rintro e w1 ⟨rfl, rfl⟩)
  go_ret
  exact ⟨rfl, rfl⟩
theorem hist_rev_nil (w : World) : Calls Tryz.prog 14 #[.pointer none] w fun e w' => e = .returned (.int .i64 0) ∧ w = w' := by
  go_enter Tryz.func14, Tryz.ntmps14
  go_wp2
  go_ret
  exact ⟨rfl, rfl⟩
theorem hist_hor_nil (w : World) : Calls Tryz.prog 58 #[.pointer none] w fun e w' => e = .returned (.int .i64 0) ∧ w = w' := by
  go_enter Tryz.func58, Tryz.ntmps58
  go_wp2
  go_ret
  exact ⟨rfl, rfl⟩
theorem hist_apply_nil (ov : Value) (w : World) : Calls Tryz.prog 17 #[.pointer none, ov] w fun e w' => e = .returned (.slice none 0 0) ∧ Fr [] w w' := by
  go_enter Tryz.func17, Tryz.ntmps17
  go_wp2
  go_ret
  exact ⟨rfl, Fr.refl _ _⟩
theorem hist_at_nil (rev : Int) (rv : Value) (w : World) : Calls Tryz.prog 11 #[.pointer none, .int .i64 rev, rv] w fun e w' => e = .returned (.tuple #[.slice none 0 0, .int .i64 1]) ∧ Fr [] w w' := by
  go_enter Tryz.func11, Tryz.ntmps11
  go_wp2
  all_goals refine bodyPost_ret (v := .tuple #[.slice none 0 0, .int .i64 1]) (by simp [results, Tryz.results11, go_sem]) rfl ?_
  all_goals refine ⟨rfl, ?_⟩
  all_goals first | exact Fr.refl _ _ | exact (Fr.refl _ _).alloc _
theorem hist_compact_nil (rev : Int) (w : World) : Calls Tryz.prog 19 #[.pointer none, .int .i64 rev] w fun e w' => e = .returned (.int .i64 1) ∧ Fr [] w w' := by
  go_enter Tryz.func19, Tryz.ntmps19
  go_wp2
  go_ret
  exact ⟨rfl, Fr.refl _ _⟩
theorem hist_new (w : World) : Calls Tryz.prog 6 #[] w fun e w' => ∃ p S, e = .returned (.pointer (some ⟨p, 0, none⟩)) ∧ Hs w' p S HA.zero ∧ Fr [] w w' ∧ ∀ k ∈ S, w.heap.size ≤ k := by
  have hmm := @run_makeMap Tryz.prog
  go_enter Tryz.func6, Tryz.ntmps6
  go_wp2
  obtain ⟨b0, b1, b2, hf⟩ := three_boxes (S := []) (w := w) (a := .map #[] 0) (b := .map #[] 0) (c := .cells #[.int .i64 0, .int .i64 0, .map (some w.heap.size), .map (some (w.heap.size + 1))] 73) (by simp) (Fr.refl [] _)
  have m0 : MapG Tryz.prog 3 intD isSl _ w.heap.size 0 (fun _ => none) := (MapG.made Tryz.prog 3 intD isSl w).keep (((Fr.refl [] (w.alloc (.map #[] 0))).alloc (.map #[] 0)).alloc (.cells #[.int .i64 0, .int .i64 0, .map (some w.heap.size), .map (some (w.heap.size + 1))] 73)) (by simp)
  have m1 : MapG Tryz.prog 9 strD isSl _ (w.heap.size + 1) 0 (fun _ => none) := (by
    have := (MapG.made Tryz.prog 9 strD isSl (w.alloc (.map #[] 0))).keep ((Fr.refl [] ((w.alloc (.map #[] 0)).alloc (.map #[] 0))).alloc (.cells #[.int .i64 0, .int .i64 0, .map (some w.heap.size), .map (some (w.heap.size + 1))] 73)) (by simp)
    simpa using this)
  generalize ((w.alloc (.map #[] 0)).alloc (.map #[] 0)).alloc (.cells #[.int .i64 0, .int .i64 0, .map (some w.heap.size), .map (some (w.heap.size + 1))] 73) = w3 at *
  have hs := lt_of_block b2
  go_ret
  refine ⟨w.heap.size + 1 + 1, [w.heap.size, w.heap.size + 1, w.heap.size + 1 + 1], rfl, ⟨HWf.nil, w.heap.size, w.heap.size + 1, 0, 0, fun _ => none, fun _ => none, Nat.le_refl _, Nat.zero_le _, ?_⟩, hf, by simp; omega⟩
  exact ⟨b2, m0, m1, by simp, by intro i h1 h2; simp [HA.zero] at h2, fun k _ => rfl, by simp, by simp, by simp, by simp, by simp, by simp, by simp, by simp, by omega, by simp; omega⟩
end Go.Proofs.YtmipllkgioakoaaGreat
