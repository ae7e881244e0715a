/- PACKAGE slices at events: Grow, Concat: contracts
PACKAGE cursor: gather, wanted: contracts -/
import Derived.Test.YtmbfcdoemcffpaaCuRows
import Derived.Lib.AppendZeros
import Derived.Test.YtmbfcdoemcffpaaEvFil
import Derived.Test.YtmbfcdoemcffpaaEvLst
import Derived.Test.YtmbfcdoemcffpaaCuRef
namespace Go.Proofs.Ytmbfcdoemcffpaa
open Go.RowKit
set_option linter.unusedVariables false
set_option linter.unusedSimpArgs false

/-- an append of zeros to nothing, cut to nothing: room -/
theorem egrown_room (w : World) (n cap : Nat) (e : TypeId) (hc : n ≤ cap) (hm : cap ≤ maxLen) (z : Value) (hz : z.cells.size = 4) (cs : Array Value) (hcs : cap * 4 ≤ cs.size) :
    Lies (w.drew.alloc (.cells cs e)) e 4 (.slice (some ⟨w.heap.size, 0, none⟩) 0 cap) 0 [] :=
  ⟨by simp, Or.inr ⟨w.heap.size, 0, cap, cs, rfl, new_block w.drew _, Nat.zero_le _, hm, by omega, fun j hj => by omega⟩⟩
theorem egrow_run (n : Nat) (w : World) (h : 0 < n) (bn : n ≤ 1000000000) : ∃ cap cs, n ≤ cap ∧ (Builtin.append_ #[30, 3] 30 #[.slice none 0 0, .int .i64 n]).run Try.prog w = .ok (.slice (some ⟨w.heap.size, 0, none⟩) n cap) (w.drew.alloc (.cells cs 67)) ∧
    Lies (w.drew.alloc (.cells cs 67)) 67 4 (.slice (some ⟨w.heap.size, 0, none⟩) 0 cap) 0 [] := by
  obtain ⟨i, hi, hz, hs, hb⟩ := info_parts ev_info
  have hcap := grownCap_ge w n 0 67
  have hcm := grownCap_le_maxLen w n 0 67 (by unfold maxLen; omega)
  have hrun := Go.Lib.run_append_nil_zeros (P := Try.prog) w 30 3 30 67 i _ .i64 .i64 ev_slice Try.underlying3 hi hz n h (by omega) (by omega) (by rw [hb]; omega)
  refine ⟨_, _, hcap, hrun, egrown_room w n _ _ hcap hcm (.agg #[.int .i64 0, .string ⟨#[]⟩, .string ⟨#[]⟩, .bool false]) rfl _ ?_⟩
  rw [Array.size_append, size_zeroCells, size_zeroCells]
  show _ ≤ n * 4 + _ * 4
  omega
set_option maxHeartbeats 1000000 in
set_option maxRecDepth 100000 in
theorem grow_ev (n : Nat) (w : World) (bn : n ≤ many) : Calls Try.prog 63 #[.slice none 0 0, .int .i64 n] w fun e w' => ∃ v, e = .returned v ∧ OutAt Ev.cells 67 4 w w' v [] ∧ Fr [] w w' := by
  unfold many at bn
  go_enter Try.func63, Try.ntmps63
  by_cases h : 0 < n
  · have t1 : decide (0 < n) = true := by simpa using h
    obtain ⟨cap, cs, hcap, hrun, hok⟩ := egrow_run n w h bn
    have HOK := Lib.hid hok
    have HR := Lib.hid hrun
    clear hrun hok
    go_wp2_with (at_builtin; refine Go.Lib.wpList_append_run w rfl (.tmp 20) (.tmp 21) 30 3 rfl _ _ rfl rfl _ _ HR.out ?_)
    go_ret
    exact ⟨_, rfl, ⟨HOK.out, fun k hk => by simp [Value.ownBlock] at hk; omega⟩, ((Fr.refl [] w).drew).alloc _⟩
  · obtain rfl : n = 0 := by omega
    go_wp2
    go_ret
    exact ⟨_, rfl, OutAt.nil _ _, Fr.refl _ _⟩
/-! a row of rows -/
def erowC (x : Value × List Ev) : List Value := [x.1]
theorem erowC_len (x : Value × List Ev) : (erowC x).length = 1 := rfl
def etotal : List (Value × List Ev) → Nat
  | [] => 0
  | x :: r => x.2.length + etotal r
theorem etotal_app : ∀ a b : List (Value × List Ev), etotal (a ++ b) = etotal a + etotal b
  | [], b => by simp [etotal]
  | x :: r, b => by simp only [List.cons_append, etotal, etotal_app r b]; omega
theorem etotal_take {l : List (Value × List Ev)} {j : Nat} {x : Value × List Ev} (hx : l[j]? = some x) : etotal (l.take (j + 1)) = etotal (l.take j) + x.2.length := by
  rw [List.take_add_one, hx, etotal_app]; rfl
theorem etotal_le (l : List (Value × List Ev)) (j : Nat) : etotal (l.take j) ≤ etotal l := by
  have := etotal_app (l.take j) (l.drop j)
  rw [List.take_append_drop] at this; omega
theorem eflat_len2 : ∀ l : List (Value × List Ev), (l.flatMap (·.2)).length = etotal l
  | [] => rfl
  | x :: r => by simp only [List.flatMap_cons, List.length_append, etotal, eflat_len2 r]
theorem eflat_take {l : List (Value × List Ev)} {j : Nat} {x : Value × List Ev} (hx : l[j]? = some x) : (l.take (j + 1)).flatMap (·.2) = (l.take j).flatMap (·.2) ++ x.2 := by
  rw [List.take_add_one, hx, List.flatMap_append]; simp
structure ERows (w : World) (v : Value) (L : List (Value × List Ev)) : Prop where
  here : LIn erowC 1 w v L
  each : ∀ x ∈ L, EvIn w x.1 x.2
theorem ERows.keep0 {w w' : World} {v : Value} {L : List (Value × List Ev)} (h : ERows w v L) (hf : Fr [] w w') : ERows w' v L := ⟨LIn.keep0 h.here hf, fun x hx => LIn.keep0 (h.each x hx) hf⟩
theorem ERows.spot {w : World} {v : Value} {L : List (Value × List Ev)} (h : ERows w v L) (hn : 0 < L.length) : ∃ (g off c : Nat), v = .slice (some ⟨g, off, Option.none⟩) L.length c ∧ ∀ i x, L[i]? = some x → w.cell? ⟨g, off + i, Option.none⟩ = some x.1 := by
  obtain ⟨g, off, c, hv, h1, h2, h3⟩ := LIn.here h.here hn
  refine ⟨g, off, c, hv, fun i x hx => ?_⟩
  have q := h3 i x hx 0 (by decide)
  simpa [erowC] using q
set_option maxHeartbeats 1000000 in
theorem concat_ev (v : Value) (L : List (Value × List Ev)) (w : World) (h : ERows w v L) (bL : L.length ≤ many) (bt : etotal L ≤ many) : Calls Try.prog 56 #[v] w fun e w' => ∃ v', e = .returned v' ∧ OutAt Ev.cells 67 4 w w' v' (L.flatMap (·.2)) ∧ Fr [] w w' := by
  unfold many at bL bt
  obtain ⟨s1, c1, rfl, la, ma⟩ := LIn.form h.here
  unfold maxLen at ma
  have HL := Lib.hid h
  clear h
  go_enter Try.func56, Try.ntmps56
  go_wp2_with fail
  go_loopw [3, 11] (fun s i wr => ∃ (j : Nat) (m : Nat), s = .int .i64 m ∧ i = .int .i64 j ∧ j ≤ L.length ∧ m = etotal (L.take j) ∧ w = wr) (fun _ i _ => L.length - (intOf i).toNat)
  case atStart => exact ⟨0, 0, rfl, rfl, Nat.zero_le _, rfl, rfl⟩
  case round =>
    obtain ⟨j, m, rfl, rfl, hj, hm, rfl⟩ := hrel
    have HM := Lib.hid hm
    have hml : m ≤ 1000000000 := by rw [hm]; exact Nat.le_trans (etotal_le L j) bt
    clear hm
    by_cases hlt : j < L.length
    · obtain ⟨x, hx⟩ : ∃ x, L[j]? = some x := ⟨_, List.getElem?_eq_getElem hlt⟩
      obtain ⟨g, off, d1, e1, k1⟩ := HL.out.spot (by omega)
      simp only [Value.slice.injEq] at e1
      obtain ⟨rfl, _, rfl⟩ := e1
      have p0 := k1 j x hx
      have HX := Lib.hid hx
      have hxl : x.2.length ≤ 1000000000 := by have := etotal_take hx; have := etotal_le L (j + 1); omega
      obtain ⟨s2, c2, hv2, la2, ma2⟩ := LIn.form (HL.out.each x (List.mem_of_getElem? hx))
      unfold maxLen at ma2
      rw [hv2] at p0
      have t1 : decide (j < L.length) = true := by simpa using hlt
      clear hx k1 hv2
      go_wp2_with fail
      go_roundw
      case rel => exact ⟨j + 1, m + x.2.length, by go_num, by go_num, by omega, by rw [etotal_take HX.out, ← HM.out], trivial⟩
      case measure => simp [intOf]; omega
    · have t1 : decide (j < L.length) = false := by simpa using hlt
      have hj2 : j = L.length := by omega
      subst hj2
      clear HM
      go_wp2_with (go_at_call 63; refine (grow_ev m _ hml).mono ?_; rintro e w1 ⟨v1, rfl, ho1, hf1⟩; refine go_stop ?_)
      unfold Stop
      obtain ⟨s3, c3, rfl⟩ : ∃ s c, v1 = .slice s 0 c := by obtain ⟨s3, c3, h, _⟩ := ho1.lies.form; exact ⟨s3, c3, h⟩
      have HO1 := Lib.hid ho1
      have HF1 := Lib.hid hf1
      clear ho1 hf1 hml hlt t1
      go_wp2_with fail
      go_loopw [6, 27] (fun v i wr => ∃ (j : Nat) (o : List Ev), i = .int .i64 j ∧ j ≤ L.length ∧ OutAt Ev.cells 67 4 w wr v o ∧ o = (L.take j).flatMap (·.2) ∧ Fr [] w wr) (fun _ i _ => L.length - (intOf i).toNat)
      case atStart => exact ⟨0, [], rfl, Nat.zero_le _, HO1.out, rfl, HF1.out⟩
      case round =>
        clear HO1 HF1
        obtain ⟨j, o, rfl, hj, ho, hs, hf⟩ := hrel
        have hol : o.length ≤ 1000000000 := by rw [hs, eflat_len2]; exact Nat.le_trans (etotal_le L j) bt
        have HO := Lib.hid ho
        have HS := Lib.hid hs
        have HF := Lib.hid hf
        clear ho hs hf
        by_cases hlt : j < L.length
        · obtain ⟨x, hx⟩ : ∃ x, L[j]? = some x := ⟨_, List.getElem?_eq_getElem hlt⟩
          obtain ⟨g, off, d1, e1, k1⟩ := (HL.out.keep0 HF.out).spot (by omega)
          simp only [Value.slice.injEq] at e1
          obtain ⟨rfl, _, rfl⟩ := e1
          have p0 := k1 j x hx
          have HX := Lib.hid hx
          have hsum : o.length + x.2.length ≤ 1000000000 := by
            have h1 := etotal_take hx
            have h2 := etotal_le L (j + 1)
            rw [HS.out, eflat_len2]; omega
          have HST := Lib.hid (LIn.keep0 (HL.out.each x (List.mem_of_getElem? hx)) HF.out)
          have t1 : decide (j < L.length) = true := by simpa using hlt
          clear hx k1
          go_wp2_with (at_builtin; refine wpList_append_src rfl (.tmp 31) (.tmp 32) 30 67 (.agg #[.int .i64 0, .string ⟨#[]⟩, .string ⟨#[]⟩, .bool false]) 4 48 rfl ev_slice ev_info rfl (by decide) _ o.length (allC Ev.cells o) rfl HO.out.lies x.1 x.2.length (allC Ev.cells x.2) rfl (LIn.src HST.out Ev.clen (by decide)) (allC_ones Ev.cone x.2) (by unfold maxLen; omega) (by omega) ?app)
          case app =>
          intro v' w' h1 h2 h3
          have HA := Lib.hid (OutAt.app HO.out HF.out.size (xs := x.2) h1 rfl h3)
          have HG := Lib.hid (OutAt.fr HO.out HF.out h2)
          clear h1 h2 h3
          go_wp2_with fail
          go_roundw
          case rel => exact ⟨j + 1, o ++ x.2, by go_num, by omega, HA.out, by rw [eflat_take HX.out, ← HS.out], HG.out⟩
          case measure => simp [intOf]; omega
        · have t1 : decide (j < L.length) = false := by simpa using hlt
          have hj2 : j = L.length := by omega
          subst hj2
          have HO2 : Hid (OutAt Ev.cells 67 4 w wr _ (L.flatMap (·.2))) := Lib.hid (by have := HS.out; rw [List.take_length] at this; rw [← this]; exact HO.out)
          go_wp2
          go_ret
          exact ⟨_, rfl, HO2.out, HF.out⟩
end Go.Proofs.Ytmbfcdoemcffpaa
namespace Go.Proofs.Ytmbfcdoemcffpaa
open Go.RowKit
set_option linter.unusedVariables false
set_option linter.unusedSimpArgs false

def fullR (rows : List (List Ev)) : List (List Ev) := rows.filter (fun r => !r.isEmpty)
theorem fullR_step {rows : List (List Ev)} {j : Nat} {x : List Ev} (hx : rows[j]? = some x) : fullR (rows.take (j + 1)) = fullR (rows.take j) ++ (if x = [] then [] else [x]) := by
  unfold fullR
  rw [filt_step2 hx]
  cases x <;> simp
set_option maxHeartbeats 2000000 in
theorem cur_gather (T : List Nat) (v : Value) (rows : List (List Ev)) (w : World) (hr : RowsF T w v rows) (hT : ∀ k ∈ T, k < w.heap.size) (bl : rows.length ≤ 1000000000) : Calls Try.prog 55 #[v] w fun e w' => ∃ v', e = .returned v' ∧ RowsF T w' v' (fullR rows) ∧ Fr [] w w' := by
  have HRF := Lib.hid hr
  have HT := Lib.hid hT
  have HR := Lib.hid hr.rowsIn
  obtain ⟨s1, c1, rfl, la, ma⟩ := hr.form
  unfold maxLen at ma
  clear hr hT
  go_enter Try.func55, Try.ntmps55
  go_wp2_with fail
  go_loopw [3, 8] (fun tv i wr => ∃ (j : Nat) (vs : List Value), i = .int .i64 j ∧ j ≤ rows.length ∧ RB T w wr tv vs (fullR (rows.take j)) ∧ Fr [] w wr) (fun _ i _ => rows.length - (intOf i).toNat)
  case atStart => exact ⟨0, [], rfl, Nat.zero_le _, RB.nil _ _ _, Fr.refl _ _⟩
  case round =>
    obtain ⟨j, vs, rfl, hj, hb, hf⟩ := hrel
    have HB := Lib.hid hb
    have HF := Lib.hid hf
    clear hb hf
    by_cases h : j < rows.length
    · obtain ⟨x, hx⟩ : ∃ x, rows[j]? = some x := ⟨_, List.getElem?_eq_getElem h⟩
      obtain ⟨g, off, d1, e1, l1, k1⟩ := RowsIn.here (HR.out.keep0 HF.out) (by omega)
      simp only [Value.slice.injEq] at e1
      obtain ⟨rfl, _, rfl⟩ := e1
      obtain ⟨u, hu, hur⟩ := k1 j x hx
      have hu0 : LFar T Ev.cells 4 w u x ∧ EvIn w u x := by
        obtain ⟨vs0, h1, h2, h6⟩ := HRF.out
        have hi : j < vs0.length := by omega
        have hu2 := h6 j _ x (List.getElem?_eq_getElem hi) hx
        obtain ⟨g', off', c', h7, h8, h9, h10⟩ := LIn.here h2.1 (by omega)
        simp only [Value.slice.injEq, Option.some.injEq, Addr.mk.injEq, and_true] at h7
        obtain ⟨⟨rfl, rfl⟩, _, _⟩ := h7
        have h11 := h10 j _ (List.getElem?_eq_getElem hi) 0 (by decide)
        have h12 := HF.out.cell (show w.cell? ⟨g, off + j, none⟩ = some vs0[j] by simpa [uC] using h11) (by simp)
        rw [hu] at h12
        cases h12
        exact ⟨hu2, hu2.lin⟩
      obtain ⟨su, cu, hus, _, _⟩ := LIn.form hur
      subst hus
      have HX := Lib.hid hx
      have HFAR : Hid (LFar (T ++ u3.ownBlock.toList) Ev.cells 4 wr (.slice su x.length cu) x) := Lib.hid (by
        refine ⟨hur, fun hn k hk hm => ?_⟩
        rcases List.mem_append.1 hm with hm | hm
        · exact hu0.1.2 hn k hk hm
        · have h1 := (HB.out.new _ (Option.mem_toList.1 hm)).1
          obtain ⟨g', off', c', h7, h8, _⟩ := LIn.here hu0.2 hn
          rw [h7] at hk
          simp [Value.ownBlock] at hk
          omega)
      have t1 : decide (j < rows.length) = true := by simpa using h
      have hfn : (fullR (rows.take j)).length ≤ 1000000000 := by
        unfold fullR
        refine Nat.le_trans (List.length_filter_le _ _) ?_
        rw [List.length_take]; omega
      clear hx k1 hur hu0
      by_cases hxn : x = []
      · have HE := Lib.hid hxn
        have hl0 : x.length = 0 := by rw [hxn]; rfl
        rw [hl0] at hu
        clear hxn hl0
        go_wp2_with fail
        go_roundw
        case rel => exact ⟨j + 1, vs, by go_num, by omega, by rw [fullR_step HX.out, if_pos HE.out, List.append_nil]; exact HB.out, HF.out⟩
        case measure => simp [intOf]; omega
      · have HE := Lib.hid hxn
        have hl0 : 0 < x.length := List.length_pos_iff.2 hxn
        have t2 : decide (0 < x.length) = true := by simpa using hl0
        clear hxn hl0
        go_wp2_with (at_builtin; refine wpList_append_any rfl (.tmp 15) (.tmp 17) 28 30 (.slice none 0 0) 1 24 rfl row_slice row_info rfl (by decide) _ (fullR (rows.take j)).length vs rfl (HB.out.lies.keep ((Fr.refl [] _).alloc _) (by simp)) _ 1 [.slice su x.length cu] rfl (lies_row wr 30 [.slice su x.length cu] rfl _ rfl) (by intro y hy; simp at hy; subst hy; rfl) (by unfold maxLen; omega) (by omega) ?app)
        case app =>
        intro vb w5 h1 h2 h3
        have hal : Fr [] wr (wr.alloc (.cells #[.slice su x.length cu] 30)) := (Fr.refl [] wr).alloc _
        have HR5 := Lib.hid ((HB.out.keep hal).app (B := wr.heap.size + 1) (Nat.le_trans HF.out.size (by omega)) (fun hm => by have := HT.out _ hm; have := HF.out.size; omega) (by simp) (HFAR.out.keep0 hal) h1 h2 h3)
        have HF5 := Lib.hid ((HB.out.keep hal).fr (HF.out.trans hal (by simp)) h2)
        clear h1 h2 h3 hal
        go_wp2_with fail
        go_roundw
        case rel => exact ⟨j + 1, _, by go_num, by omega, by rw [fullR_step HX.out, if_neg HE.out]; exact HR5.out, HF5.out⟩
        case measure => simp [intOf]; omega
    · have t1 : decide (j < rows.length) = false := by simpa using h
      have hj2 : j = rows.length := by omega
      subst hj2
      go_wp2
      go_ret
      refine ⟨_, rfl, ?_, HF.out⟩
      have := HB.out.rowsF
      rw [List.take_length] at this
      exact this
/-- what it is told, before those without events are left out -/
theorem fullR_full (C : Cu) (rows : List (List Ev)) : fullR (rows.map (filterE C.f C.t)) = C.full rows := rfl
theorem RowsIn.erows {w : World} {v : Value} {rows : List (List Ev)} (h : RowsIn w v rows) : ∃ L, ERows w v L ∧ L.map (·.2) = rows := by
  obtain ⟨vs, h1, ⟨a, c, h2, h3, h4, h5⟩, h6⟩ := h
  have hl : (vs.zip rows).length = rows.length := by rw [List.length_zip]; omega
  refine ⟨vs.zip rows, ⟨⟨a, c, by rw [hl]; exact h2, by rw [hl]; exact h3, h4, fun hn => ?_⟩, fun x hx => ?_⟩, ?_⟩
  · obtain ⟨g, off, h7, h8, h9⟩ := h5 (by omega)
    refine ⟨g, off, h7, h8, fun i x hx j hj => ?_⟩
    obtain rfl : j = 0 := by omega
    rw [List.getElem?_zip_eq_some] at hx
    have := h9 i _ hx.1
    simpa [erowC] using this
  · obtain ⟨i, hi⟩ := List.mem_iff_getElem?.1 hx
    rw [List.getElem?_zip_eq_some] at hi
    exact h6 i _ _ hi.1 hi.2
  · exact List.map_snd_zip (by omega)
theorem concat_rows (v : Value) (rows : List (List Ev)) (w : World) (h : RowsIn w v rows) (bR : RFew rows) : Calls Try.prog 56 #[v] w fun e w' => ∃ v', e = .returned v' ∧ OutAt Ev.cells 67 4 w w' v' rows.flatten ∧ Fr [] w w' := by
  obtain ⟨L, h1, h2⟩ := h.erows
  have h3 : L.flatMap (·.2) = rows.flatten := by rw [List.flatMap_def, h2]
  have h4 := concat_ev v L w h1 (by have := bR.1; rw [← h2, List.length_map] at this; exact this) (by rw [← eflat_len2, h3]; exact bR.2)
  rw [h3] at h4
  exact h4
set_option maxHeartbeats 2000000 in
theorem cur_wanted (T : List Nat) (C : Cu) (v : Value) (rows : List (List Ev)) (w : World) (hr : RowsIn w v rows) (hT : ∀ k ∈ T, k < w.heap.size) (bR : RFew rows) : Calls Try.prog 37 #[C.val, v] w fun e w' => ∃ v', e = .returned v' ∧ RowsF T w' v' (C.tell rows) ∧ Fr [] w w' := by
  have HT := Lib.hid hT
  obtain ⟨f, t, next, once, dead⟩ := C
  unfold Cu.val
  have HBR := Lib.hid bR
  have bl : rows.length ≤ 1000000000 := bR.1
  obtain ⟨s1, c1, rfl, la, ma⟩ := hr.form
  unfold maxLen at ma
  obtain ⟨wb, hwb⟩ : ∃ wb, wb = w.alloc (Obj.cells #[.string f, .string t, .int .i64 next, .bool once, .bool dead] 31) := ⟨_, rfl⟩
  have HWB := Lib.hid hwb
  have HF0 : Hid (Fr [] w wb) := Lib.hid (by rw [hwb]; exact (Fr.refl [] w).alloc _)
  have HX : Hid (wb.heap[w.heap.size]? = some (.cells #[.string f, .string t, .int .i64 next, .bool once, .bool dead] 31 (0, 0))) := Lib.hid (by rw [hwb]; exact new_block w _)
  have HR := Lib.hid (hr.keep0 HF0.out)
  have HTB : Hid (∀ W, Fr [] wb W → ∀ k ∈ T, k < W.heap.size) := Lib.hid (fun W hW k hk => by have := hT k hk; have := HF0.out.size; have := hW.size; omega)
  clear hr bR hwb hT
  go_enter Try.func37, Try.ntmps37
  go_wp2_with fail
  rw [← HWB.out]
  go_loopw [5, 10] (fun tv i wr => ∃ (j : Nat) (vs : List Value), i = .int .i64 j ∧ j ≤ rows.length ∧ RB T wb wr tv vs ((rows.take j).map (filterE f t)) ∧ Fr [] wb wr) (fun _ i _ => rows.length - (intOf i).toNat)
  case atStart => exact ⟨0, [], rfl, Nat.zero_le _, RB.nil _ _ _, Fr.refl _ _⟩
  case round =>
    obtain ⟨j, vs, rfl, hj, hb, hf⟩ := hrel
    have HB := Lib.hid hb
    have HF := Lib.hid hf
    obtain ⟨b0, b1, b2, b3, b4, _⟩ := cells5 (hf.keep HX.out (by simp))
    clear hb hf
    by_cases h : j < rows.length
    · obtain ⟨x, hx⟩ : ∃ x, rows[j]? = some x := ⟨_, List.getElem?_eq_getElem h⟩
      obtain ⟨g, off, d1, e1, l1, k1⟩ := RowsIn.here (HR.out.keep0 HF.out) (by omega)
      simp only [Value.slice.injEq] at e1
      obtain ⟨rfl, _, rfl⟩ := e1
      obtain ⟨u, hu, hur⟩ := k1 j x hx
      obtain ⟨su, cu, hus, _, _⟩ := LIn.form hur
      subst hus
      have HX2 := Lib.hid hx
      have HUR := Lib.hid hur
      have BX : Hid (x.length ≤ many) := Lib.hid (HBR.out.row hx)
      have t1 : decide (j < rows.length) = true := by simpa using h
      have hml : ((rows.take j).map (filterE f t)).length = j := by rw [List.length_map, List.length_take]; omega
      have HML := Lib.hid hml
      have hjl : j ≤ 1000000000 := by omega
      clear hml
      clear hx k1 hur
      go_wp2_with (go_at_call 54; refine (event_filter_new _ x f t _ HUR.out BX.out).mono ?_; rintro e w3 ⟨v, rfl, h1, h2, h3⟩; refine go_stop ?_)
      unfold Stop
      obtain ⟨sv, cv, hv, _, _⟩ := LIn.form h1
      subst hv
      have HFAR := Lib.hid (HB.out.far_new (HTB.out _ HF.out) h1 h3)
      have HB3 := Lib.hid (HB.out.keep h2)
      have HF3 := Lib.hid (HF.out.trans h2 (by simp))
      clear h1 h2 h3 b0 b1 b2 b3 b4 hu
      go_wp2_with (at_builtin; refine wpList_append_any rfl (.tmp 14) (.tmp 19) 28 30 (.slice none 0 0) 1 24 rfl row_slice row_info rfl (by decide) _ j vs rfl (by have q := HB3.out.lies.keep ((Fr.refl [] w3).alloc (.cells #[.slice sv (filterE f t x).length cv] 30)) (by simp); rw [HML.out] at q; exact q) _ 1 [.slice sv (filterE f t x).length cv] rfl (lies_row w3 30 [.slice sv (filterE f t x).length cv] rfl _ rfl) (by intro y hy; simp at hy; subst hy; rfl) (by unfold maxLen; omega) (by omega) ?app)
      case app =>
      intro vb w5 h1 h2 h3
      have hal : Fr [] w3 (w3.alloc (.cells #[.slice sv (filterE f t x).length cv] 30)) := (Fr.refl [] w3).alloc _
      have HR5 := Lib.hid ((HB3.out.keep hal).app (B := w3.heap.size + 1) (Nat.le_trans HF3.out.size (by omega)) (fun hm => by have := HTB.out _ HF3.out _ hm; omega) (by simp) (HFAR.out.keep0 hal) (by rw [HML.out]; exact h1) h2 h3)
      have HF5 := Lib.hid ((HB3.out.keep hal).fr (HF3.out.trans hal (by simp)) h2)
      clear h1 h2 h3 hal
      go_wp2_with fail
      go_roundw
      case rel => exact ⟨j + 1, _, by go_num, by omega, by rw [map_step HX2.out]; exact HR5.out, HF5.out⟩
      case measure => simp [intOf]; omega
    · have t1 : decide (j < rows.length) = false := by simpa using h
      have hj2 : j = rows.length := by omega
      subst hj2
      have HIF : Hid (RowsF T wr u5 (rows.map (filterE f t))) := Lib.hid (by have := HB.out.rowsF; rw [List.take_length] at this; exact this)
      have HI : Hid (RowsIn wr u5 (rows.map (filterE f t))) := Lib.hid HIF.out.rowsIn
      have HFE : Hid (RFew (rows.map (filterE f t))) := Lib.hid (filt_few HBR.out f t)
      have HFW := Lib.hid (HF0.out.trans HF.out (by simp))
      have bm : (rows.map (filterE f t)).length ≤ 1000000000 := HFE.out.1
      clear b0 b1 b2 b4
      cases once with
      | false =>
        go_wp2_with (go_at_call 55; refine (cur_gather T _ _ _ HIF.out (HTB.out _ HF.out) bm).mono ?_; rintro e w9 ⟨v, rfl, h1, h2⟩; have H1 := Lib.hid h1; have H2 := Lib.hid h2; clear h1 h2)
        go_ret
        refine ⟨_, rfl, ?_, HFW.out.trans H2.out (by simp)⟩
        rw [full_tell rfl]
        exact H1.out
      | true =>
        obtain ⟨A, hA⟩ : ∃ A, A = (rows.map (filterE f t)).flatten := ⟨_, rfl⟩
        have HFL : Hid (A.length ≤ many) := Lib.hid (by rw [hA]; exact HFE.out.2)
        have HCC := Lib.hid (concat_rows _ _ _ HI.out HFE.out)
        rw [← hA] at HCC
        have HAE := Lib.hid hA
        clear hA
        go_wp2_with (first
          | (go_at_call 56; refine HCC.out.mono ?_; rintro e w6 ⟨v6, rfl, h1, h2⟩; obtain ⟨s6, c6, hv6, _, _⟩ := LAt.form h1.lies; subst hv6; have H61 := Lib.hid h1.lies; have H62 := Lib.hid h2; clear h1 h2)
          | (go_at_call 46; refine (event_last_new _ A _ (EvAt.read H61.out) HFL.out).mono ?_; rintro e w7 ⟨v7, rfl, h1, h2, h3⟩; obtain ⟨s7, c7, hv7, _, _⟩ := LIn.form h1; subst hv7; have H72 := Lib.hid h2; have H71 : Hid (LFar T Ev.cells 4 w7 (.slice s7 (lastE A).length c7) (lastE A)) := Lib.hid (LFar.of_new h1 h3 (HTB.out _ (HF.out.trans H62.out (by simp)))); have HT7 := Lib.hid (HTB.out _ ((HF.out.trans H62.out (by simp)).trans h2 (by simp))); clear h1 h2 h3)
          | (go_at_call 55; refine (cur_gather T _ [lastE A] _ (RowsF.one H71.out HT7.out) (fun k hk => by have := HT7.out k hk; simp; omega) (by rw [List.length_singleton]; omega)).mono ?_; rintro e w9 ⟨v, rfl, h1, h2⟩; have H1 := Lib.hid h1; have H2 := Lib.hid h2; clear h1 h2))
        go_ret
        refine ⟨_, rfl, ?_, ((HFW.out.trans H62.out (by simp)).trans H72.out (by simp)).trans (((Fr.refl [] w7).alloc _).trans H2.out (by simp)) (by simp)⟩
        have h5 := H1.out
        rw [HAE.out] at h5
        have h6 : fullR [lastE (rows.map (filterE f t)).flatten] = Cu.tell ⟨f, t, next, true, dead⟩ rows := by
          unfold Cu.tell
          rw [if_pos rfl]
          show fullR [lastE (Cu.all ⟨f, t, next, true, dead⟩ rows)] = _
          cases hA : Cu.all ⟨f, t, next, true, dead⟩ rows with
          | nil => rw [if_pos rfl, (lastE_nil_iff []).2 rfl]; rfl
          | cons a r =>
            rw [if_neg (by simp)]
            have h7 : lastE (a :: r) ≠ [] := fun h => by have := (lastE_nil_iff _).1 h; simp at this
            unfold fullR
            cases h8 : lastE (a :: r) with
            | nil => exact absurd h8 h7
            | cons b q => rfl
        rw [← h6]
        exact h5
end Go.Proofs.Ytmbfcdoemcffpaa
