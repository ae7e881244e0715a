/- Two calls and a Seek, each let go on step by step, in whatever turns, over a tree behind 60 calls at most: each step asks one cell at most, once; a call that is done asks none, and tells what it told: for every list of calls, every two calls and all turns. No condition. -/
import Derived.Test.YthiobdhdefimhaaBsRan
import Derived.Test.YthiobdhdefimhaaBsTeam
namespace Go.Proofs.Ythiobdhdefimhaa.lawBstSteps
open Go.ChangeShapes Go.WideShapes Go.ChangeAt Go.RowKit Go.Deep Go.ChangeMaps
set_option linter.unusedVariables false
set_option linter.unusedSimpArgs false

section
variable {H : Type} {enc : TypeId × Value → H} {w : World} {base : Nat} {spare : Nat → Bool} {held : Bool}
theorem ar6 {α : Type} {cs : Array α} (h : cs.size = 6) : ∃ c0 c1 c2 c3 c4 c5, cs = #[c0, c1, c2, c3, c4, c5] := by
  obtain ⟨l⟩ := cs
  match l, h with
  | [a, b, c, d, e, f], _ => exact ⟨a, b, c, d, e, f, rfl⟩
set_option maxRecDepth 100000 in
theorem open_two_des {v : Value} {d : DataW H} {p : List MemPlace} {r : Reach} {b0 : Nat} (hv : Value.okWide Try.prog w r b0 48 v) (h : DataW.Trod enc Try.prog w base spare held 48 v d p) :
    ∃ x y : De, v = .agg #[.int .i64 x.kind, .string x.key, .int .u64 x.val, .int .i64 y.kind, .string y.key, .int .u64 y.val] := by
  have hc2 : Try.prog.cellsOf 48 = 6 := by kernel_rfl
  have hform : ∃ cs, v = .agg cs ∧ cs.size = Try.prog.cellsOf 48 := by
    have ha : Try.prog.underlying 48 = some (.array 2 37) := Try.underlying48
    simp only [Value.okWide, ha] at hv
    obtain ⟨cs, h1, h2, _⟩ := hv
    exact ⟨cs, h1, h2⟩
  obtain ⟨cs, rfl, hsz⟩ := hform
  obtain ⟨c0, c1, c2, c3, c4, c5, rfl⟩ := ar6 (hsz.trans hc2)
  obtain ⟨fuel, hf⟩ := h
  obtain ⟨xs, m, _, _, _, hl, hi⟩ := DataW.trod_array Try.underlying48 hf
  have h0 := hi 0 (by decide)
  have h1 := hi 1 (by decide)
  have x0 : xs[0]? = some (xs[0]'(by omega)) := List.getElem?_eq_getElem _
  have x1 : xs[1]? = some (xs[1]'(by omega)) := List.getElem?_eq_getElem _
  rw [x0] at h0
  rw [x1] at h1
  obtain ⟨a, ha⟩ := de_of h0
  obtain ⟨b, hb⟩ := de_of h1
  have a0 := ha 0 (by decide)
  have a1 := ha 1 (by decide)
  have a2 := ha 2 (by decide)
  have b0 := hb 0 (by decide)
  have b1 := hb 1 (by decide)
  have b2 := hb 2 (by decide)
  simp [Value.cells, De.cells, de_cells] at a0 a1 a2 b0 b1 b2
  subst a0 a1 a2 b0 b1 b2
  exact ⟨a, b, rfl⟩
end
theorem pick3 {p1 p2 p3 kk : Nat} (h : kk < 3) : ∃ p, [p1, p2, p3][kk]? = some p ∧ (#[pt p1, pt p2, pt p3] : Array Value)[kk]? = some (pt p) := by
  match kk, h with
  | 0, _ => exact ⟨p1, rfl, rfl⟩
  | 1, _ => exact ⟨p2, rfl, rfl⟩
  | 2, _ => exact ⟨p3, rfl, rfl⟩
theorem _root_.Go.Proofs.Ythiobdhdefimhaa.Team.small {w0 w : World} {tb mb n cnt : Nat} {ps : List Nat} {K : List (Nat × Obj)} {ds : List Bool} (h : Team w0 w tb mb ps n K cnt ds) : cnt ≤ 100000000 + n ∧ ds.length = ps.length := by
  obtain ⟨X, A, t, qs, h⟩ := h
  exact ⟨by rw [← h.hcnt]; exact h.asked, by rw [← h.dn, ← h.cbs]; simp⟩
set_option maxRecDepth 20000 in
set_option maxHeartbeats 4000000 in
theorem walk (lv tv : Value) (l : List De) (d1 d2 : De) (turns : List Bool) (w : World) (hl : DeIn w lv l) (ht : BoIn w tv turns) :
    Calls Try.prog 4 #[lv, .agg #[.int .i64 d1.kind, .string d1.key, .int .u64 d1.val, .int .i64 d2.kind, .string d2.key, .int .u64 d2.val], tv] w fun e w' => e = .returned (.bool true) ∧ Below w.heap.size w w' := by
  obtain ⟨ts, tc, rfl, ta, tb'⟩ := LIn.form ht
  unfold maxLen at tb'
  obtain ⟨k1, s1, v1⟩ := d1
  obtain ⟨k2, s2, v2⟩ := d2
  dsimp only
  obtain ⟨wA, hwA⟩ : ∃ x, x = w.alloc (.cells #[.int .i64 k1, .string s1, .int .u64 v1, .int .i64 k2, .string s2, .int .u64 v2] 48) := ⟨_, rfl⟩
  have hfA : Fr [] w wA := by rw [hwA]; exact (Fr.refl [] w).alloc _
  have hbA : wA.heap[w.heap.size]? = some (.cells #[.int .i64 k1, .string s1, .int .u64 v1, .int .i64 k2, .string s2, .int .u64 v2] 48 (0, 0)) := by rw [hwA]; exact new_block w _
  have HWA := Lib.hid hwA
  have HFA := Lib.hid hfA
  have HTU := Lib.hid ht
  have HBX : Hid (∀ W, Fr [] wA W → W.cell? ⟨w.heap.size, 0, none⟩ = some (.int .i64 k1) ∧ W.cell? ⟨w.heap.size, 1, none⟩ = some (.string s1) ∧ W.cell? ⟨w.heap.size, 2, none⟩ = some (.int .u64 v1) ∧ W.cell? ⟨w.heap.size, 3, none⟩ = some (.int .i64 k2) ∧ W.cell? ⟨w.heap.size, 4, none⟩ = some (.string s2) ∧ W.cell? ⟨w.heap.size, 5, none⟩ = some (.int .u64 v2)) := Lib.hid fun W hW => by
    have hb := hW.keep hbA (by simp)
    obtain ⟨c0, c1, c2, c3, c4, c5, _⟩ := cells6 hb
    exact ⟨c0, c1, c2, c3, c4, c5⟩
  have HRN : Hid (∀ W, Fr [] wA W → Calls Try.prog 16 #[lv] W fun e w' => ∃ tb mb, e = .returned (.tuple #[pt tb, pt mb]) ∧ Hid (∃ cnt, Team wA w' tb mb [] 0 [] cnt [])) := Lib.hid fun W hW => (bs_ran lv l W (LIn.keep0 hl (fr_c hfA hW))).mono fun e w' ⟨tb, mb, x, n, he, hn, hM⟩ => ⟨tb, mb, he, Lib.hid (Team.start (hM.before hW) (by omega))⟩
  clear hl ht hwA hfA hbA
  go_enter Try.func4, Try.ntmps4
  go_upto_region 1 with fail
  rw [← HWA.out]
  go_wp2_with (go_at_call 6; refine (bs_awake _).mono ?_; rintro e w1 ⟨rfl, hf⟩; refine go_stop ?_)
  unfold Stop
  have HF1 := Lib.hid hf
  clear hf
  go_wp2_with (go_at_call 16; refine (HRN.out _ HF1.out).mono ?_; rintro e w2 ⟨tb, mb, rfl, HR2⟩; refine go_stop ?_)
  unfold Stop
  obtain ⟨cnt0, hT0⟩ := HR2.out
  have T0 := Lib.hid hT0
  clear hT0 HR2 HRN HF1
  have HBG : Hid (∀ (W : World) (p : Nat), Hid (Team wA W tb mb [p] 0 [] cnt0 [false]) → ∀ (k : Int) (s : ByteArray) (v : Int), Calls Try.prog 10 #[pt tb, .agg #[.int .i64 k, .string s, .int .u64 v]] W fun e w' => ∃ q, e = .returned (pt q) ∧ Hid (Team wA w' tb mb [p, q] 0 [] cnt0 [false, false])) := Lib.hid fun W p h k s v => team_begun h.out (by omega) k s v
  have HB1 : Hid (∀ W, Hid (Team wA W tb mb [] 0 [] cnt0 []) → ∀ (k : Int) (s : ByteArray) (v : Int), Calls Try.prog 10 #[pt tb, .agg #[.int .i64 k, .string s, .int .u64 v]] W fun e w' => ∃ p, e = .returned (pt p) ∧ Hid (Team wA w' tb mb [p] 0 [] cnt0 [false])) := Lib.hid fun W h k s v => team_begun h.out (by omega) k s v
  have HSG : Hid (∀ (W : World) (p q : Nat), Hid (Team wA W tb mb [p, q] 0 [] cnt0 [false, false]) → ∀ (s : ByteArray), Calls Try.prog 17 #[pt tb, .string s] W fun e w' => ∃ r, e = .returned (pt r) ∧ Hid (Team wA w' tb mb [p, q, r] 0 [] cnt0 [false, false, false])) := Lib.hid fun W p q h s => team_seek h.out (by omega) s
  obtain ⟨x0, x1, x2, x3, x4, x5⟩ := HBX.out _ T0.out.fr
  go_upto_region 3 with fail
  go_region_held3 (fun W => W.cell? ⟨w.heap.size, 0, none⟩ = some (.int .i64 k1) ∧ W.cell? ⟨w.heap.size, 1, none⟩ = some (.string s1) ∧ W.cell? ⟨w.heap.size, 2, none⟩ = some (.int .u64 v1) ∧ W.cell? ⟨w.heap.size, 3, none⟩ = some (.int .i64 k2) ∧ W.cell? ⟨w.heap.size, 4, none⟩ = some (.string s2) ∧ W.cell? ⟨w.heap.size, 5, none⟩ = some (.int .u64 v2)) (go_keep)
    (first
      | (go_at_call 10; refine (HB1.out _ (Lib.hid (T0.out.keep0 (by first | exact (Fr.refl [] _).drew | exact (Fr.refl [] _).drewN _ | exact Fr.refl [] _))) _ _ _).mono ?_; rintro e wa ⟨p1, rfl, T1⟩; obtain ⟨x0, x1, x2, x3, x4, x5⟩ := HBX.out _ T1.out.fr; clear HB1)
      | (go_at_call 10; refine (HBG.out _ p1 (Lib.hid (T1.out.keep0 (by first | exact (Fr.refl [] _).drew | exact (Fr.refl [] _).drewN _ | exact Fr.refl [] _))) _ _ _).mono ?_; rintro e wb ⟨p2, rfl, T2⟩; obtain ⟨x0, x1, x2, x3, x4, x5⟩ := HBX.out _ T2.out.fr)
      | (go_at_call 17; refine (HSG.out _ p1 p2 (Lib.hid (T2.out.keep0 (by first | exact (Fr.refl [] _).drew | exact (Fr.refl [] _).drewN _ | exact Fr.refl [] _))) _).mono ?_; rintro e wd ⟨p3, rfl, T3⟩; obtain ⟨x0, x1, x2, x3, x4, x5⟩ := HBX.out _ T3.out.fr))
  have T4 := Lib.hid (T3.out.alloc #[pt p1, pt p2, pt p3] 34)
  obtain ⟨w5, hw5⟩ : ∃ x, x = wd.alloc (.cells #[pt p1, pt p2, pt p3] 34) := ⟨_, rfl⟩
  obtain ⟨cb, hcb⟩ : ∃ x, x = wd.heap.size := ⟨_, rfl⟩
  rw [← hw5, ← hcb] at T4
  rw [← hw5, ← hcb]
  clear hw5 hcb T0 T3 HSG HBG HBX
  go_wp2_with fail
  go_loopw [11] (fun i wr => ∃ (j cnt : Nat) (ds : List Bool) (K : List (Nat × Obj)), i = .int .i64 j ∧ j ≤ 600 ∧ Team wA wr tb mb [p1, p2, p3] j K cnt ds ∧ (cb, .cells #[pt p1, pt p2, pt p3] 34 (0, 0)) ∈ K) (fun i _ => 600 - (intOf i).toNat)
  case atStart => exact ⟨0, cnt0, _, _, rfl, by omega, T4.out, List.mem_cons_self ..⟩
  case round =>
    obtain ⟨j, cnt, ds, K, rfl, hj, hT, hK⟩ := hrel
    have TJ := Lib.hid hT
    have HK := Lib.hid hK
    clear hT hK
    obtain ⟨hc9, hds⟩ := TJ.out.small
    have HDS := Lib.hid hds
    clear hds
    by_cases h : j < 600
    · have t0 : decide ((j : Int) < (600 : Int)) = true := decide_eq_true (by omega)
      go_upto_region 8 with fail
      go_cut [54] (fun v wx => ∃ cb : Bool, v = .bool cb ∧ wx = wr)
      case first =>
        by_cases g1 : j < turns.length
        · have t1 : decide ((j : Int) < (turns.length : Int)) = true := decide_eq_true (by omega)
          obtain ⟨b, hb⟩ : ∃ b, turns[j]? = some b := ⟨_, List.getElem?_eq_getElem g1⟩
          obtain ⟨g, off, d1, e1, l0, l1, q1⟩ := LIn.here (LIn.keep0 HTU.out (fr_c HFA.out TJ.out.fr)) (by omega)
          simp only [Value.slice.injEq] at e1
          obtain ⟨rfl, _, rfl⟩ := e1
          have x0 : wr.cell? ⟨g, off + j, none⟩ = some (.bool b) := by
            have := q1 j b hb 0 (by decide)
            rw [Nat.mul_one, Nat.add_zero] at this
            exact this
          clear q1 hb
          cases b with
          | true =>
            go_wp2_with fail
            go_meet
            exact ⟨_, rfl, rfl⟩
          | false =>
            go_wp2_with fail
            go_meet
            exact ⟨_, rfl, rfl⟩
        · have t1 : decide ((j : Int) < (turns.length : Int)) = false := decide_eq_false (by omega)
          go_wp2_with fail
          go_meet
          exact ⟨_, rfl, rfl⟩
      case rest =>
      obtain ⟨CB, rfl, rfl⟩ := hcut
      obtain ⟨wr, hwr⟩ : ∃ x, x = wc := ⟨_, rfl⟩
      subst hwr
      go_upto_if 54 with fail
      go_cut [12] (fun v wx => ∃ kk : Nat, kk < 3 ∧ v = .int .i64 kk ∧ wx = wr)
      case first =>
        cases CB with
        | true =>
          go_wp2_with fail
          go_meet
          exact ⟨0, by omega, rfl, rfl⟩
        | false =>
          go_wp2_with fail
          go_meet
          exact ⟨j % 3, by omega, by congr 1, rfl⟩
      case rest =>
      obtain ⟨kk, hk3, rfl, rfl⟩ := hcut
      obtain ⟨wr, hwr⟩ : ∃ x, x = wc := ⟨_, rfl⟩
      subst hwr
      obtain ⟨P, hP, hP2⟩ := pick3 (p1 := p1) (p2 := p2) (p3 := p3) hk3
      obtain ⟨d, hd⟩ : ∃ d, ds[kk]? = some d := ⟨_, List.getElem?_eq_getElem (by rw [HDS.out]; exact hk3)⟩
      have HCB : Hid (∀ W : World, W.heap[cb]? = some (.cells #[pt p1, pt p2, pt p3] 34 (0, 0)) → W.cell? ⟨cb, kk, none⟩ = some (pt P)) := Lib.hid fun W hW => by
        rw [cell_block hW kk]; exact hP2
      have HP := Lib.hid hP
      have HD := Lib.hid hd
      clear hP hP2 hd
      have HCT := Lib.hid (team_count TJ.out)
      have x0 := HCB.out _ (TJ.out.at HK.out)
      have HAN := Lib.hid (team_answer TJ.out HP.out HD.out)
      go_wp2_with (go_at_call 18; refine HCT.out.mono ?_; rintro e w6 ⟨rfl, rfl⟩; refine go_stop ?_)
      unfold Stop
      go_wp2_with (go_at_call 19; refine HAN.out.mono ?_; rintro e w7 ⟨o7, e7, a7, r7, rfl, hf7⟩; refine go_stop ?_)
      unfold Stop
      have T7 := Lib.hid (TJ.out.keep0 hf7)
      have T8 := Lib.hid (T7.out.alloc #[.bool o7, .string e7, .int .u64 a7, .int .i64 r7] 32)
      have HST := Lib.hid (team_step T8.out (by omega) HP.out HD.out)
      clear x0
      have x0 := HCB.out _ (T8.out.at (List.mem_cons_of_mem _ HK.out))
      clear hf7 T7 HCT HAN
      go_wp2_with (go_at_call 20; refine HST.out.mono ?_; rintro e w8 ⟨B, rfl, HT8⟩; refine go_stop ?_)
      unfold Stop
      obtain ⟨cnt2, hT9, h1, h2, h3⟩ := HT8.out
      have T9 := Lib.hid hT9
      have H3 := Lib.hid h3
      have hsm := hT9.small.1
      have HB : Hid ((ds.set kk B)[kk]? = some B) := Lib.hid (by rw [List.getElem?_set, if_pos rfl, if_pos (by rw [HDS.out]; exact hk3)])
      have HAN := Lib.hid (team_answer T9.out HP.out HB.out)
      clear x0
      have x0 := HCB.out _ (T9.out.at (List.mem_cons_of_mem _ HK.out))
      clear hT9 h3 HT8 HST T8
      go_wp2_with (go_at_call 19; refine HAN.out.mono ?_; rintro e w9 ⟨o9, e9, a9, r9, rfl, hf9⟩; refine go_stop ?_)
      unfold Stop
      have T10 := Lib.hid (Team.alloc (T9.out.keep0 hf9) #[.bool o9, .string e9, .int .u64 a9, .int .i64 r9] 32)
      have HCT := Lib.hid (team_count T10.out)
      have t1 : decide ((cnt : Int) + 1 < (cnt2 : Int)) = false := decide_eq_false (by omega)
      have e2 : (B != B) = false := by simp
      clear x0 hf9 HAN T9
      cases d with
      | true =>
        have hcc := H3.out rfl
        subst hcc
        have e1 : ((cnt2 : Int) != (cnt2 : Int)) = false := by simp
        go_wp2_with (go_at_call 18; refine HCT.out.mono ?_; rintro e w10 ⟨rfl, rfl⟩)
        go_roundw
        case rel => exact ⟨j + 1, cnt2, ds.set kk B, _, by go_num, by omega, T10.out, List.mem_cons_of_mem _ (List.mem_cons_of_mem _ HK.out)⟩
        case measure => simp [intOf] <;> omega
      | false =>
        go_wp2_with (go_at_call 18; refine HCT.out.mono ?_; rintro e w10 ⟨rfl, rfl⟩)
        go_roundw
        case rel => exact ⟨j + 1, cnt2, ds.set kk B, _, by go_num, by omega, T10.out, List.mem_cons_of_mem _ (List.mem_cons_of_mem _ HK.out)⟩
        case measure => simp [intOf] <;> omega
    · have t0 : decide ((j : Int) < (600 : Int)) = false := decide_eq_false (by omega)
      go_wp2_with fail
      go_ret
      exact ⟨rfl, (fr_c HFA.out TJ.out.fr).below (Nat.le_refl _) (by simp)⟩

set_option maxRecDepth 100000 in
theorem contract (H : Type) (enc : TypeId × Value → H) (W : World) (base : Nat) (args : Array Value) (ds gs : List (DataW H)) (before : List MemPlace)
    (hval0 : ∀ (j : Nat) t v, Try.f4.params[j]? = some t → args[j]? = some v → Value.okWide Try.prog W .any base t v)
    (hW : DataW.Whole enc Try.prog Try.f4.params.toList Rows.bstStepsSpec.vars false W args.toList ds gs before) :
    Calls Try.prog 4 args W fun e W' => ∃ v, e = .returned v ∧ Rows.bstStepsSpec.post enc Try.prog Try.f4 false true false false W args v W' := by
  have hval : ∀ (j : Nat) t v, Try.f4.params[j]? = some t → args[j]? = some v → Value.okWide Try.prog W .any base t v := hval0
  have hW' := hW
  obtain ⟨p, q, hA0, hV, rfl, hfz, hnd⟩ := hW
  have hA : DataW.TrodAll enc Try.prog W 0 (fun _ => true) true Try.f4.params.toList args.toList ds p := hA0
  rw [Try.params4] at hA hval
  obtain ⟨v0, vs0, d0, ds0, p0, q0, hargs, rfl, rfl, h0, r0⟩ := trodAll_cons hA
  obtain ⟨v1, vs1, d1, ds1, p1, q1, rfl, rfl, rfl, h1, r1⟩ := trodAll_cons r0
  obtain ⟨v2, vs2, d2, ds2, p2, q2, rfl, rfl, rfl, h2, r2⟩ := trodAll_cons r1
  obtain ⟨rfl, rfl, rfl⟩ := trodAll_nil r2
  obtain rfl : args = #[v0, v1, v2] := by cases args; simp_all
  obtain ⟨rfl, rfl⟩ := trodVars_none hV
  have k0 := h0
  have lt0 : ∀ x ∈ p0, x.block < W.heap.size := by obtain ⟨m, hm⟩ := k0; exact DataW.trod_lt m _ _ _ hm
  have k1 := h1
  have lt1 : ∀ x ∈ p1, x.block < W.heap.size := by obtain ⟨m, hm⟩ := k1; exact DataW.trod_lt m _ _ _ hm
  have k2 := h2
  have lt2 : ∀ x ∈ p2, x.block < W.heap.size := by obtain ⟨m, hm⟩ := k2; exact DataW.trod_lt m _ _ _ hm
  obtain ⟨l, hl⟩ := open_des (hval 0 22 v0 rfl rfl) h0
  obtain ⟨d1, d2, rfl⟩ := open_two_des (hval 1 48 v1 rfl rfl) h1
  obtain ⟨turns, hturns⟩ := open_bools (hval 2 49 v2 rfl rfl) h2
  clear hA0 hval0 hval
  refine (walk v0 v2 l d1 d2 turns W hl hturns).mono fun e W' ⟨he, bel⟩ => ?_
  subst he
  exact ⟨_, rfl, _, _, _, [], _, [], hW', trodAll_mk1 (shut_bool Try.underlying4 _), (trodAll_cons_mk (Below.trod laid_prog (by kernel_rfl) (of_decide_eq_true (by kernel_rfl)) k0 bel lt0) (trodAll_cons_mk (Below.trod laid_prog (by kernel_rfl) (of_decide_eq_true (by kernel_rfl)) k1 bel lt1) (trodAll_cons_mk (Below.trod laid_prog (by kernel_rfl) (of_decide_eq_true (by kernel_rfl)) k2 bel lt2) trodAll_mk0))), rfl, bel.frame _, fun h => by cases h⟩

set_option maxRecDepth 100000 in
theorem lifted (os : Os) (started : os.Started) (H : Type) (enc : TypeId × Value → H) :
    ReturnsInHanded {} Try.checked os 4 .any (Rows.bstStepsSpec.pre6 enc Try.prog Try.f4 Rows.bstStepsRow.domain false) (Rows.bstStepsSpec.post enc Try.prog Try.f4 false true false false) := by
  refine returnsInHanded_of_change (C := Try.checked) own_prog started (by kernel_rfl) Try.func4
    (ChangeSpec.witness6 (enc := enc) (C := Try.checked) false ⟨#[], #[.slice none 0 0, .agg #[.int .i64 0, .string ⟨#[]⟩, .int .u64 0, .int .i64 0, .string ⟨#[]⟩, .int .u64 0], .slice none 0 0], []⟩ 8 (by kernel_rfl) (by kernel_rfl) (by kernel_rfl) (by kernel_rfl)) ?_
  intro W base args ds gs before hval hW _ _
  exact contract H enc W base args ds gs before hval hW

theorem proved : Rows.BstStepsSaid :=
  OpenClaim.holds_of_wide 4 Try.f4 rfl rfl rfl rfl rfl rfl rfl ⟨rfl, rfl, rfl, rfl, rfl⟩ rfl rfl rfl rfl rfl (by kernel_rfl) Try.func4 (by kernel_rfl)
    (of_decide_eq_true (by kernel_rfl)) (by unfold Func.isWrapper; first | (rw [if_pos (by decide +kernel)]; kernel_rfl) | (rw [if_neg (by decide +kernel)]; exact ⟨rfl, rfl⟩))
    (fun os started H enc _ => lifted os started H enc)

end Go.Proofs.Ythiobdhdefimhaa.lawBstSteps
