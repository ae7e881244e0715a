/- PACKAGE hist: Apply: contract -/
import Derived.Test.YtmipllkgioakoaaGreatHistEvs
namespace Go.Proofs.YtmipllkgioakoaaGreat
open Go.RowKit Go.Maps
set_option linter.unusedVariables false
set_option linter.unusedSimpArgs false

theorem HsAt.row {w : World} {p : Nat} {S : List Nat} {rows : List (List Ev)} {hor : Nat} {V : ByteArray → List Ev} {rm km n1 n2 : Nat} {R : Int → Option Value} {M : ByteArray → Option Value} (h : HsAt w p S rows hor V rm km n1 n2 R M) {i : Nat} {v : Value} {r : List Ev} (hv : R ((i : Int) + 1) = some v) (hr : rows[i]? = some r) : EvAt w v r := by
  obtain ⟨i', r', h1, _, h3, h4⟩ := h.ronly _ v hv
  obtain rfl : i' = i := by omega
  rw [hr] at h3; cases h3; exact h4
/-- in what the events' being put leaves -/
def ApIn (w0 : World) (p : Nat) (S0 : List Nat) (rows : List (List Ev)) (hor : Nat) (V : ByteArray → List Ev) (rm km n1 nb : Nat) (R : Int → Option Value) (w : World) : Prop :=
  ∃ S n2 M, HsAt w p S rows hor V rm km n1 n2 R M ∧ n2 ≤ nb ∧ (∀ k ∈ S, k ∈ S0 ∨ w0.heap.size ≤ k) ∧ Fr S0 w0 w
/-- one event more of a key -/
theorem ApIn.step {w0 w wb w1 w2 : World} {p : Nat} {S S0 : List Nat} {rows : List (List Ev)} {hor : Nat} {V : ByteArray → List Ev} {rm km n1 n2 nb : Nat} {R : Int → Option Value} {M : ByteArray → Option Value} (h : HsAt w p S rows hor V rm km n1 n2 R M) (hn : n2 ≤ nb) (hS : ∀ k ∈ S, k ∈ S0 ∨ w0.heap.size ≤ k) (hf0 : Fr S0 w0 w)
    {x : Ev} {v0 v1 : Value} (hv0 : v0 = (M x.key).getD (.slice none 0 0)) (hfb : Fr [] w wb) (hl : Lies w1 63 4 v1 ((V x.key).length + 1) (allC Ev.cells (V x.key) ++ x.cells)) (hf1 : Fr v0.ownBlock.toList wb w1) (hnew : ∀ k, v1.ownBlock = some k → v0.ownBlock = some k ∨ k = wb.heap.size)
    (hm : MapG Tryz.prog 9 strD isSl w2 km (n2 + 1) (fun z => if z = x.key then some v1 else M z)) (hf2 : Fr [km] w1 w2) (hv1 : ∀ k, v1.ownBlock = some k → k ≠ km) :
    ApIn w0 p S0 rows hor (fun z => if z = x.key then V x.key ++ [x] else V z) rm km n1 (nb + 1) R w2 := by
  have hf01 : Fr v0.ownBlock.toList w w1 := (hfb.mono (T := v0.ownBlock.toList) (by simp)).trans hf1 (fun k hk => Or.inl hk)
  have hf : Fr (km :: v0.ownBlock.toList) w w2 := (hf01.mono (fun k hk => Or.inl (by simp [hk]))).trans hf2 (by simp)
  have hat : EvAt w2 v1 (V x.key ++ [x]) := by
    have h1 : EvAt w1 v1 (V x.key ++ [x]) := by
      unfold EvAt LAt; rw [allC_app, allC_one, List.length_append]; exact hl
    exact h1.keep hf2 (fun k hk => by simpa using hv1 k hk)
  have hk := h.kput hv0 hat (fun g hg => by
    rcases hnew g hg with h1 | h1
    · exact Or.inl h1
    · have := hfb.size; exact Or.inr (by omega)) hf hm
  refine ⟨_, _, _, hk, by omega, fun k hk => ?_, hf0.trans hf (fun k hk => ?_)⟩
  · rcases List.mem_append.1 hk with hk | hk
    · exact hS k hk
    · rcases hnew k (Option.mem_toList.1 hk) with h1 | h1
      · rw [hv0] at h1; exact hS k (h.gfar x.key k h1).2.1
      · have := hfb.size; have := hf0.size; exact Or.inr (by omega)
  · rcases List.mem_cons.1 hk with rfl | hk
    · exact hS _ h.ks
    · have h1 := Option.mem_toList.1 hk
      rw [hv0] at h1; exact hS k (h.gfar x.key k h1).2.1
theorem take_snoc2 {α : Type} {m : List α} {j : Nat} {x : α} (hx : m[j]? = some x) : m.take (j + 1) = m.take j ++ [x] := by
  rw [List.take_add_one, hx]; rfl
theorem take_filter {row : List Ev} {j : Nat} {x : Ev} (hx : row[j]? = some x) (l : List Ev) (k : ByteArray) : (if k = x.key then (l ++ (row.take j).filter (fun e => decide (e.key = k))) ++ [x] else l ++ (row.take j).filter (fun e => decide (e.key = k))) = l ++ (row.take (j + 1)).filter (fun e => decide (e.key = k)) := by
  rw [take_snoc2 hx, List.filter_append]
  by_cases hk : k = x.key
  · rw [if_pos hk, hk]; simp
  · rw [if_neg hk, List.filter_cons_of_neg (by simpa using fun e => hk e.symm)]; simp

set_option maxRecDepth 100000 in
set_option maxHeartbeats 4000000 in
theorem hist_apply {w : World} {p : Nat} {S : List Nat} {H : HA} {n : Nat} (ov : Value) (ops : List Od) (h : Hs w p S H) (hk : HOk H n) (hn : n ≤ 1000) (ho : LFar S Od.cells 3 w ov ops) (bo : ops.length ≤ 3000000000) : Calls Tryz.prog 17 #[.pointer (some ⟨p, 0, none⟩), ov] w fun e w' =>
    ∃ v S', e = .returned v ∧ Hs w' p S' (H.app ops) ∧ LFar S' Ev.cells 4 w' v (H.told ops) ∧ (∀ k, v.ownBlock = some k → w.heap.size ≤ k) ∧ Fr S w w' ∧ Grow S S' w := by
  have HS0 := Lib.hid h
  have hfl : H.rows.flatten.length ≤ 100000 := by have := hk.flat; omega
  have hrl : H.rows.length ≤ 1000 := by have := hk.rev; omega
  have hhor := hk.hor
  have hsl := h.lt
  obtain ⟨hwf, rm, km, n1, n2, R, M, b1, b2, h⟩ := h
  obtain ⟨s1, c1, rfl, la, ma⟩ := ho.form
  unfold maxLen at ma
  obtain ⟨rows, hor⟩ := H
  dsimp only [HA.app, HA.told] at *
  have HH := Lib.hid h
  have HO := Lib.hid ho.lin
  have HW := Lib.hid hwf
  have HSL := Lib.hid hsl
  have HB2 := Lib.hid b2
  have hb22 : n2 ≤ 200000 := by
    have h1 := congrArg List.length (congrArg List.flatten (List.take_append_drop hor rows))
    rw [List.flatten_append, List.length_append] at h1
    omega
  have hrev := rowOf_rev (rows := rows) (ops := ops)
  have hrlen := rowOf_len rows ops
  obtain ⟨row, hrow⟩ : ∃ row, row = rowOf rows ops := ⟨_, rfl⟩
  rw [← hrow] at hrev hrlen ⊢
  have HREV := Lib.hid hrev
  have HEV : Hid (Calls Tryz.prog 35 #[.pointer (some ⟨p, 0, none⟩), .slice s1 ops.length c1] w fun e w' => ∃ v, e = .returned v ∧ OutAt Ev.cells 63 4 w w' v row ∧ Fr [] w w') :=
    Lib.hid (by rw [hrow]; exact hist_events _ ops h hwf hhor hfl (by omega) ho.lin bo)
  clear h ho hwf hsl hrev hrow b2
  go_enter Tryz.func17, Tryz.ntmps17
  go_wp2_with (go_at_call 35; refine (HEV.out).mono ?_; rintro e w1 ⟨v1, rfl, ho1, hf1⟩; refine go_stop ?_)
  unfold Stop
  obtain ⟨s2, c2, rfl, la2, ma2⟩ := ho1.lies.form
  unfold maxLen at ma2
  have HO1 := Lib.hid ho1
  have HF1 := Lib.hid hf1
  have HH1 := Lib.hid (HH.out.keep hf1 (by simp))
  obtain ⟨c0, c1', c2', c3', cf⟩ := cells4 HH1.out.blk
  have cf1 := cf 1
  clear ho1 hf1 cf
  by_cases hz : row = []
  · subst hz
    go_wp2
    go_ret
    refine ⟨_, S, rfl, ?_, LFar.nil _ _, by simp [Value.ownBlock], HF1.out.mono (by simp), Grow.refl _ _⟩
    have := HS0.out.keep HF1.out (by simp)
    simpa [putR] using this
  · have hl0 : 0 < row.length := List.length_pos_iff.2 hz
    have t0 : ¬ ((row.length : Int) = 0) := by omega
    have t00 : ¬ (row.length = 0) := by omega
    have HZ := Lib.hid hz
    clear hz
    have hs1 : IntKind.i64.wrap ((rows.length : Int) + 1) = (rows.length : Int) + 1 := IntWalk.i64_in _ (by omega)
    have hpl := lt_of_block HH1.out.blk
    have hrp := HH1.out.rp
    have HFS : Hid (Fr [p] w1 (w1.setCell ⟨p, 1, none⟩ (.int .i64 ((rows.length : Int) + 1))).drew) := Lib.hid ((Fr.refl [p] w1).setCell (p := ⟨p, 1, none⟩) (Or.inl (by simp)) _).drew
    obtain ⟨w2, hst, hm2, hf2⟩ := (HH1.out.rmap.keep HFS.out (by simpa using hrp)).store KI rows_map (by unfold maxLen; omega) (e := (rows.length : Int) + 1) (KI_ok (by omega) (by omega)) (x := .slice s2 row.length c2) rfl
    simp only [intD] at hst
    have hb9 : (w1.setCell ⟨p, 1, none⟩ (.int .i64 ((rows.length : Int) + 1))).heap[p]? = some (.cells #[.int .i64 hor, .int .i64 ((rows.length : Int) + 1), .map (some rm), .map (some km)] 73 (0, 0)) := by simpa using set_block (w := w1) HH1.out.blk 1 (.int .i64 ((rows.length : Int) + 1))
    have hb8 : (w1.setCell ⟨p, 1, none⟩ (.int .i64 ((rows.length : Int) + 1))).drew.heap[p]? = some (.cells #[.int .i64 hor, .int .i64 ((rows.length : Int) + 1), .map (some rm), .map (some km)] 73 (0, 0)) := hb9
    have hbp : w2.heap[p]? = some (.cells #[.int .i64 hor, .int .i64 ((rows.length : Int) + 1), .map (some rm), .map (some km)] 73 (0, 0)) :=
      hf2.keep hb8 (by simpa using hrp.symm)
    have hf12 : Fr [p, rm] w1 w2 := (HFS.out.mono (T := [p, rm]) (by simp)).trans hf2 (by simp)
    have hev2 : EvAt w2 (.slice s2 row.length c2) row := HO1.out.lies.keep hf12 (fun g hg => by have := ev_far HH1.out HO1.out.lies hg; simp [this.1, this.2.1])
    have HH2 := Lib.hid (HH1.out.rput hev2 (fun g hg hm => by have := HO1.out.new g hg; have := HSL.out g hm; omega) hf12 hhor hbp hm2)
    have HF2 : Hid (Fr S w w2) := Lib.hid ((HF1.out.mono (by simp)).trans hf12 (fun k hk => by
      rcases List.mem_cons.1 hk with rfl | hk
      · exact Or.inl HH1.out.ps
      · obtain rfl := List.mem_singleton.1 hk; exact Or.inl HH1.out.rs))
    have np : ¬ w1.heap.size = p := by omega
    have kk2 : (w1.setCell ⟨p, 1, none⟩ (.int .i64 ((rows.length : Int) + 1))).drew.cell? ⟨p, 2, none⟩ = some (.map (some rm)) := (cells4 hb8).2.2.1
    obtain ⟨d0, d1, d2, d3, _⟩ := cells4 hbp
    clear hm2 hf2 hbp hf12 hev2 hb8 hb9
    go_wp2_with fail
    go_region_held3 (fun w' => w'.cell? ⟨p, 2, none⟩ = some (.map (some rm))) (first | go_keep | assumption) (first
      | (go_at_call 36; refine (span_next (r := rows.length) (by first | assumption | exact c1') (by first | assumption | exact cf1) ⟨by omega, by omega⟩).mono ?_; rintro e w9 ⟨rfl, rfl⟩))
    go_wp2_with fail
    go_loopw [27] (fun i wr => ∃ (j : Nat), i = .int .i64 j ∧ j ≤ row.length ∧ ApIn w p S (rows ++ [row]) hor (fun k => versN rows hor k ++ (row.take j).filter (fun e => decide (e.key = k))) rm km (n1 + 1) (n2 + j) (fun z => if z = (rows.length : Int) + 1 then some (.slice s2 row.length c2) else R z) wr) (fun i _ => row.length - (intOf i).toNat)
    case atStart =>
      exact ⟨0, rfl, Nat.zero_le _, _, n2, M, HH2.out.vers (fun k => by simp), Nat.le_refl _, fun k hk => by
        rcases List.mem_append.1 hk with hk | hk
        · exact Or.inl hk
        · exact Or.inr (HO1.out.new k (Option.mem_toList.1 hk)), HF2.out⟩
    case round =>
      clear kk2 hst d0 d1 d2 d3 c0 c1' c2' c3' HFS HH1 HH2 HF2 cf1
      obtain ⟨j, rfl, hj, S3, n3, M3, h3, hn3, hS3, hf3⟩ := hrel
      have HH3 := Lib.hid h3
      have HS3 := Lib.hid hS3
      have HF3 := Lib.hid hf3
      clear h3 hS3 hf3
      by_cases h : j < row.length
      · obtain ⟨x, hx⟩ : ∃ x, row[j]? = some x := ⟨_, List.getElem?_eq_getElem h⟩
        have hrow : EvAt wr (.slice s2 row.length c2) row := HH3.out.row (i := rows.length) (by simp) (by simp)
        obtain ⟨g, off, d1, e1, _, l1, k1⟩ := EvIn.here hrow.read (by omega)
        simp only [Value.slice.injEq] at e1
        obtain ⟨rfl, _, rfl⟩ := e1
        obtain ⟨p0, p1, p2, p3⟩ := k1 j x hx
        have t1 : decide (j < row.length) = true := by simpa using h
        obtain ⟨v0, hv0⟩ : ∃ v0, v0 = (M3 x.key).getD (.slice none 0 0) := ⟨_, rfl⟩
        have hat := HH3.out.get x.key
        have hfar := HH3.out.gfar x.key
        rw [← hv0] at hat hfar
        have hstep := take_filter hx
        obtain ⟨L, hL⟩ : ∃ L, L = versN rows hor x.key ++ (row.take j).filter (fun e => decide (e.key = x.key)) := ⟨_, rfl⟩
        rw [← hL] at hat
        have hll : L.length ≤ 4000000000 := by
          have h1 := vers_len rows hor x.key
          have h2 := List.length_filter_le (fun e : Ev => decide (e.key = x.key)) (row.take j)
          rw [List.length_take] at h2
          rw [hL, List.length_append]; omega
        have HAT : Hid (∀ X, Fr [] wr X → Lies X 63 4 v0 L.length (allC Ev.cells L)) := Lib.hid (fun X hX => Lies.keep hat hX (by simp))
        have HFAR := Lib.hid hfar
        have HV0 := Lib.hid hv0
        have HL := Lib.hid hL
        have HX := Lib.hid hx
        have hlk : Hid (∀ X, Fr [] wr X → (Instr.lookup 69 (.map (some km)) (.string x.key) false).run Tryz.prog X = .ok v0 X) := Lib.hid (fun X hX => by
          rw [HV0.out]; exact (HH3.out.kmap.keep hX (by simp)).look KS keys_map (zero_vers _) rfl x.wf.1)
        have hn33 : n3 ≤ 4000000000 := by omega
        have HKX := Lib.hid x.wf.1
        have HPL := Lib.hid (lt_of_block HH3.out.blk)
        have HKP := Lib.hid HH3.out.kp
        have HKL := Lib.hid HH3.out.kmap.lt
        clear hrow k1 hx hv0 hat hfar hL hstep
        go_wp2_with fail
        have HBZ : Hid ((wr.alloc (.cells #[.int .i64 x.rev, .string x.key, .string x.val, .bool x.del] 63)).heap[wr.heap.size]? = some (.cells #[.int .i64 x.rev, .string x.key, .string x.val, .bool x.del] 63 (0, 0))) := Lib.hid (new_block wr _)
        have HFZ : Hid (Fr [] wr (wr.alloc (.cells #[.int .i64 x.rev, .string x.key, .string x.val, .bool x.del] 63))) := Lib.hid ((Fr.refl [] wr).alloc _)
        clear p0 p1 p2 p3
        generalize wr.alloc (.cells #[.int .i64 x.rev, .string x.key, .string x.val, .bool x.del] 63) = wz at *
        have hz0 := HFZ.out.size
        have n1 : ¬ wz.heap.size = p := (by have := HPL.out; omega)
        have n2 : ¬ wz.heap.size = wr.heap.size := (by have := lt_of_block HBZ.out; omega)
        obtain ⟨m0, m1, m2, m3, _⟩ := cells4 HBZ.out
        have m4 := HFZ.out.cell (cells4 HH3.out.blk).2.2.2.1 (by simp)
        have k1 := hlk.out wz.drew HFZ.out.drew
        have k2 := hlk.out (wz.alloc (.cells #[.int .i64 x.rev, .string x.key, .string x.val, .bool x.del] 63)).drew (HFZ.out.alloc _).drew
        clear hz0
        go_region_held3 (fun w' => (w'.cell? ⟨wr.heap.size, 0, none⟩ = some (.int .i64 x.rev) ∧ w'.cell? ⟨wr.heap.size, 1, none⟩ = some (.string x.key) ∧ w'.cell? ⟨wr.heap.size, 2, none⟩ = some (.string x.val) ∧ w'.cell? ⟨wr.heap.size, 3, none⟩ = some (.bool x.del)) ∧ w'.cell? ⟨p, 3, none⟩ = some (.map (some km))) (first | go_keep | assumption) 
          ((refine step_append_any (by rfl) (.tmp 43) (.tmp 45) 75 63 (.agg #[.int .i64 0, .string ⟨#[]⟩, .string ⟨#[]⟩, .bool false]) 4 48 (by rfl) ver_slice ev_info rfl (by decide) v0 L.length (allC Ev.cells L) (by rfl) (HAT.out _ ((HFZ.out.alloc _).drew)) _ 1 x.cells (by rfl) (Lies.drew (lies_row wz 63 x.cells rfl wz.heap.size rfl)) x.cone (by unfold maxLen; omega) (by omega) ?_
            intro v1 w2 hl1 hf1 hn1
            have hfb : Fr [] wr (wz.alloc (.cells #[.int .i64 x.rev, .string x.key, .string x.val, .bool x.del] 63)).drew := (HFZ.out.alloc _).drew
            obtain ⟨s3, c3, hv1, _⟩ := hl1.form
            have hf01 : Fr v0.ownBlock.toList wr w2 := (hfb.mono (T := v0.ownBlock.toList) (by simp)).trans hf1 (fun k hk => Or.inl hk)
            have nkm : km ∉ v0.ownBlock.toList := not_own (fun g hg => (HFAR.out g hg).1.2.2)
            have npp : p ∉ v0.ownBlock.toList := not_own (fun g hg => (HFAR.out g hg).1.1)
            have nee : wr.heap.size ∉ v0.ownBlock.toList := not_own (fun g hg => (by have := (HAT.out wr (Fr.refl _ _)).lt g hg; omega))
            have hkm2 := HH3.out.kmap.keep hf01 nkm
            have hat2 : EvAt w2 v1 (L ++ [x]) := (by unfold EvAt LAt; rw [allC_app, allC_one, List.length_append]; exact hl1)
            have hnk := at_not_map hat2 hkm2
            obtain ⟨wq, hrun, hmq, hfq⟩ := hkm2.store (t := 69) (E := 75) KS keys_map (by unfold maxLen; omega) (e := x.key) HKX.out (x := v1) (by rw [hv1]; rfl)
            simp only [strD] at hrun
            have hbe := (hf1.keep (blk_alloc HBZ.out _) nee)
            obtain ⟨q0, q1, q2, q3, _⟩ := cells4 hbe
            have q4 := hf01.cell (cells4 HH3.out.blk).2.2.2.1 npp
            obtain ⟨u0, u1, u2, u3, _⟩ := cells4 (hfq.keep hbe (by simp; have := HKL.out; omega))
            have u4 := hfq.cell q4 (by simpa using HKP.out.symm)
            have HAP := Lib.hid (ApIn.step HH3.out hn3 HS3.out HF3.out HV0.out hfb (by rw [← HL.out]; exact hl1) hf1 hn1 hmq hfq hnk)
            clear hl1 hf1 hn1 hfb hf01 nkm npp nee hkm2 hat2 hnk hmq hfq hbe hv1))
        all_goals go_wp2
        all_goals
          refine ⟨⟨j + 1, by simp, by omega, ?_⟩, by simp [intOf]; omega⟩
          have hv : (fun k => versN rows hor k ++ (row.take (j + 1)).filter (fun e => decide (e.key = k))) = (fun z => if z = x.key then versN rows hor x.key ++ List.filter (fun e => decide (e.key = x.key)) (List.take j row) ++ [x] else versN rows hor z ++ List.filter (fun e => decide (e.key = z)) (List.take j row)) := by
            funext k
            have h1 := take_filter HX.out (versN rows hor k) k
            rw [← h1]
            by_cases hk : k = x.key
            · rw [if_pos hk, if_pos hk, hk]
            · rw [if_neg hk, if_neg hk]
          rw [hv]
          exact HAP.out
      · have t1 : decide (j < row.length) = false := by simpa using h
        obtain rfl : j = row.length := by omega
        have hrow : EvAt wr (.slice s2 row.length c2) row := HH3.out.row (i := rows.length) (by simp) (by simp)
        have HROW := Lib.hid hrow.read
        clear hrow
        go_wp2_with (go_at_call 37; refine (clone_ev _ row _ HROW.out (by omega)).mono ?_; rintro e w9 ⟨v9, rfl, ho9, hf9⟩)
        go_ret
        have hput : putR rows row = rows ++ [row] := by unfold putR; rw [if_neg HZ.out]
        refine ⟨v9, S3, rfl, ?_, ho9.far Ev.clen HH3.out.lt, fun k hk => ?_, HF3.out.trans hf9 (by simp), HS3.out⟩
        · rw [hput]
          refine ⟨HW.out.snoc HREV.out, rm, km, _, _, _, _, ?_, ?_, (HH3.out.keep hf9 (by simp)).vers fun k => ?_⟩
          · simp; omega
          · have := HB2.out
            rw [List.take_append_of_le_length hhor, List.flatten_append, List.length_append]
            simp only [List.flatten_cons, List.flatten_nil, List.append_nil]
            show n3 ≤ _
            omega
          · rw [List.take_length]
            exact vers_snoc HREV.out hhor k
        · have h1 := ho9.new k hk
          have := HF3.out.size
          omega
end Go.Proofs.YtmipllkgioakoaaGreat
