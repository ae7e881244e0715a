/- PACKAGE hist: events of ops at the next revision: contract -/
import Derived.Test.YtmipllkgioakoaaGreatHistOne
import Derived.Deep.RegionLaw
namespace Go.Proofs.YtmipllkgioakoaaGreat
open Go.RowKit Go.Maps
set_option linter.unusedVariables false
set_option linter.unusedSimpArgs false

theorem place_map : Tryz.prog.underlying 100 = some (.map 9 3) := Tryz.underlying100
theorem zero_int (w : World) : (zeroValue 3).run Tryz.prog w = .ok (.int .i64 0) w := by kernel_rfl
/-- each key's last place, of the first j -/
def Placed (ops : List Od) (j : Nat) (P : ByteArray → Option Value) : Prop :=
  ∀ i x, i < j → ops[i]? = some x → (∀ i' x', i < i' → i' < j → ops[i']? = some x' → x'.key ≠ x.key) → P x.key = some (.int .i64 i)
theorem Placed.step {ops : List Od} {j : Nat} {P : ByteArray → Option Value} (h : Placed ops j P) {x : Od} (hx : ops[j]? = some x) : Placed ops (j + 1) (fun z => if z = x.key then some (.int .i64 j) else P z) := by
  intro i y hi hy hn
  by_cases hij : i = j
  · subst hij
    rw [hx] at hy; cases hy
    simp
  · have h1 := hn j x (by omega) (by omega) hx
    show (if y.key = x.key then _ else _) = _
    rw [if_neg (fun e => h1 e.symm)]
    exact h i y (by omega) hy (fun i' x' h2 h3 h4 => hn i' x' h2 (by omega) h4)
theorem Placed.get {ops : List Od} {P : ByteArray → Option Value} (h : Placed ops ops.length P) : ∀ (n j : Nat) (x : Od), ops.length - j = n → ops[j]? = some x →
    ∃ i0 : Nat, P x.key = some (.int .i64 i0) ∧ i0 < ops.length ∧ j ≤ i0 ∧ (i0 = j ↔ (ops.drop (j + 1)).any (fun y => decide (y.key = x.key)) = false) := by
  intro n
  induction n using Nat.strongRecOn with
  | _ n ih =>
    intro j x hn hx
    have hj := (List.getElem?_eq_some_iff.1 hx).1
    cases ha : (ops.drop (j + 1)).any (fun y => decide (y.key = x.key)) with
    | false =>
      refine ⟨j, h j x hj hx fun i' x' h1 h2 h3 hk => ?_, hj, Nat.le_refl _, by simp⟩
      rw [List.any_eq_false] at ha
      refine ha x' (List.mem_iff_getElem?.2 ⟨i' - (j + 1), ?_⟩) (by simpa using hk)
      rw [List.getElem?_drop, ← h3]; congr 1; omega
    | true =>
      obtain ⟨y, hy, hk⟩ := List.any_eq_true.1 ha
      obtain ⟨i, hi⟩ := List.mem_iff_getElem?.1 hy
      rw [List.getElem?_drop] at hi
      have hk : y.key = x.key := by simpa using hk
      have hil := (List.getElem?_eq_some_iff.1 hi).1
      obtain ⟨i0, g1, g2, g3, _⟩ := ih (ops.length - (j + 1 + i)) (by omega) (j + 1 + i) y rfl hi
      exact ⟨i0, by rw [← hk]; exact g1, g2, by omega, by constructor <;> intro h <;> first | omega | cases h⟩
theorem count_step (m : List Kv) {ops : List Od} {j : Nat} {x : Od} (hx : ops[j]? = some x) : countO m (ops.drop j) = (if cntB m x (ops.drop (j + 1)) then [x] else []) ++ countO m (ops.drop (j + 1)) := by
  have h1 : ops.drop j = x :: ops.drop (j + 1) := by
    obtain ⟨h2, rfl⟩ := List.getElem?_eq_some_iff.1 hx
    exact List.drop_eq_getElem_cons h2
  rw [h1, countO]
  split <;> simp

theorem at_not_map {κ : Type} {P : Program} {k : TypeId} {K : KeyD κ} {ok : Value → Bool} {w : World} {b n : Nat} {M : κ → Option Value} {v : Value} {l : List Ev} (h : EvAt w v l) (hm : MapG P k K ok w b n M) : ∀ g, v.ownBlock = some g → g ≠ b := by
  rintro g hg rfl
  obtain ⟨cur, hc⟩ := at_tag h hg
  obtain ⟨es, c, hd⟩ := hm.isMap
  rw [hd] at hc; cases hc
theorem not_own {v : Value} {b : Nat} (h : ∀ g, v.ownBlock = some g → g ≠ b) : b ∉ v.ownBlock.toList := fun hm => h b (Option.mem_toList.1 hm) rfl

set_option maxRecDepth 100000 in
set_option maxHeartbeats 4000000 in
theorem hist_events {w : World} {p : Nat} {S : List Nat} {rows : List (List Ev)} {hor : Nat} {rm km n1 n2 : Nat} {R : Int → Option Value} {M : ByteArray → Option Value} (ov : Value) (ops : List Od) (h : HsAt w p S rows hor (versN rows hor) rm km n1 n2 R M) (hw : HWf rows) (hh : hor ≤ rows.length) (hfl : rows.flatten.length ≤ 100000) (hrl : rows.length ≤ 100000)
    (ho : OdIn w ov ops) (bo : ops.length ≤ 3000000000) : Calls Tryz.prog 35 #[.pointer (some ⟨p, 0, none⟩), ov] w fun e w' => ∃ v, e = .returned v ∧ OutAt Ev.cells 63 4 w w' v (rowOf rows ops) ∧ Fr [] w w' := by
  obtain ⟨s1, c1, rfl, la, ma⟩ := LIn.form ho
  unfold maxLen at ma
  have HO := Lib.hid ho
  have HH := Lib.hid h
  have hmm := @run_makeMap Tryz.prog
  have HMD := Lib.hid (MapG.made Tryz.prog 9 strD isI64 w)
  have hp := lt_of_block h.blk
  have HTH : Hid (∀ k : ByteArray, thereV (versN rows hor k) rows.length = (getK k (mapN rows rows.length)).isSome) := Lib.hid (fun k => there_get hw hh k)
  have HVL : Hid (∀ k, (versN rows hor k).length ≤ many) := Lib.hid (fun k => Nat.le_trans (vers_len _ _ _) (by unfold many; omega))
  have HP := Lib.hid hp
  clear h ho hw hp
  go_enter Tryz.func35, Tryz.ntmps35
  go_wp2_with fail
  go_loopw [14] (fun i wr => ∃ (j : Nat), i = .int .i64 j ∧ j ≤ ops.length ∧ (∃ P, MapG Tryz.prog 9 strD isI64 wr w.heap.size j P ∧ Placed ops j P) ∧ Fr [] w wr) (fun i _ => ops.length - (intOf i).toNat)
  case atStart => exact ⟨0, rfl, Nat.zero_le _, ⟨_, HMD.out, by intro i x hi; omega⟩, (Fr.refl _ _).alloc _⟩
  case round =>
    obtain ⟨j, rfl, hj, ⟨P, hm, hP⟩, hf⟩ := hrel
    have HM := Lib.hid hm
    have HPL := Lib.hid hP
    have HF := Lib.hid hf
    clear hm hf hP
    by_cases h : j < ops.length
    · obtain ⟨x, hx⟩ : ∃ x, ops[j]? = some x := ⟨_, List.getElem?_eq_getElem h⟩
      obtain ⟨g, off, d1, e1, _, l1, k1⟩ := OdIn.here (LIn.keep0 HO.out HF.out) (by omega)
      simp only [Value.slice.injEq] at e1
      obtain ⟨rfl, _, rfl⟩ := e1
      obtain ⟨p0, p1, p2⟩ := k1 j x hx
      have HX := Lib.hid hx
      obtain ⟨w5, hst, hm5, hf5⟩ := (HM.out.keep ((Fr.refl [] wr).alloc (Obj.cells #[.string x.key, .string x.val, .bool x.del] 87)) (by simp)).store KS place_map (by unfold maxLen; omega) (e := x.key) x.wf.1 (x := .int .i64 j) rfl
      simp only [strD] at hst
      have HM5 := Lib.hid hm5
      have HF5 := Lib.hid ((HF.out.alloc (.cells #[.string x.key, .string x.val, .bool x.del] 87)).trans hf5 (by simp))
      have t1 : decide (j < ops.length) = true := by simpa using h
      clear hx k1 hm5 hf5
      go_wp2_with fail
      go_roundw
      case rel => exact ⟨j + 1, by go_num, by omega, ⟨_, HM5.out, HPL.out.step HX.out⟩, HF5.out⟩
      case measure => simp [intOf]; omega
    · have t1 : decide (j < ops.length) = false := by simpa using h
      obtain rfl : j = ops.length := by omega
      clear h hj
      go_wp2_with fail
      clear t1
      go_loopw [8, 26] (fun v i wr => ∃ (j : Nat) (o : List Ev), i = .int .i64 j ∧ j ≤ ops.length ∧ OutAt Ev.cells 63 4 w wr v o ∧ o ++ (countO (mapN rows rows.length) (ops.drop j)).map (Od.ev (rows.length + 1)) = rowOf rows ops ∧ o.length ≤ j ∧ MapG Tryz.prog 9 strD isI64 wr w.heap.size ops.length P ∧ Fr [] w wr) (fun _ i _ => ops.length - (intOf i).toNat)
      case atStart => exact ⟨0, [], rfl, Nat.zero_le _, OutAt.nil _ _, rfl, Nat.zero_le _, HM.out, HF.out⟩
      case round =>
        clear HM HF
        obtain ⟨j, o, rfl, hj, hout, hs, hol, hm, hf⟩ := hrel
        have HOUT := Lib.hid hout
        have HS := Lib.hid hs
        have HM := Lib.hid hm
        have HF := Lib.hid hf
        have HSZ := Lib.hid hf.size
        clear hout hs hm hf
        by_cases h : j < ops.length
        · obtain ⟨x, hx⟩ : ∃ x, ops[j]? = some x := ⟨_, List.getElem?_eq_getElem h⟩
          obtain ⟨g, off, d1, e1, _, l1, k1⟩ := OdIn.here (LIn.keep0 HO.out HF.out) (by omega)
          simp only [Value.slice.injEq] at e1
          obtain ⟨rfl, _, rfl⟩ := e1
          obtain ⟨p0, p1, p2⟩ := k1 j x hx
          obtain ⟨i0, hi0, hil, hij, hib⟩ := HPL.out.get _ j x rfl hx
          have HSTEP := Lib.hid (count_step (mapN rows rows.length) hx)
          have HIB := Lib.hid hib
          have hlk := (HM.out.keep ((Fr.refl [] wr).alloc (Obj.cells #[.string x.key, .string x.val, .bool x.del] 87)) (by simp)).look KS place_map (zero_int _) rfl (e := x.key) x.wf.1
          rw [hi0] at hlk
          simp only [strD, Option.getD_some] at hlk
          have t1 : decide (j < ops.length) = true := by simpa using h
          have hpn : ¬ wr.heap.size = p := (by have := HP.out; have := HSZ.out; omega)
          obtain ⟨y, hy⟩ : ∃ y : Ev, y = x.ev (rows.length + 1) := ⟨_, rfl⟩
          have HY := Lib.hid hy
          have HXS : Hid (∀ X, Fr [] wr X → HsAt X p S rows hor (versN rows hor) rm km n1 n2 R M) := Lib.hid (fun X hX => HH.out.keep (HF.out.trans hX (by simp)) (by simp))
          have HXC : Hid (∀ X, Fr [] wr X → X.cell? ⟨p, 1, none⟩ = some (.int .i64 rows.length)) := Lib.hid (fun X hX => (cells4 (HXS.out X hX).blk).2.1)
          have hs1 : IntKind.i64.wrap ((rows.length : Int) + 1) = (rows.length : Int) + 1 := IntWalk.i64_in _ (by omega)
          have hkx := x.wf.1
          have HKX := Lib.hid hkx
          obtain ⟨d, hd⟩ : ∃ d, x.del = d := ⟨_, rfl⟩
          have HMADE : Hid (∀ X, Calls Tryz.prog 55 #[.agg #[.string x.key, .string x.val, .bool d], .int .i64 ((rows.length : Int) + 1)] X fun e w' => e = .returned (.agg #[.int .i64 y.rev, .string y.key, .string y.val, .bool y.del]) ∧ Fr [] X w') :=
            Lib.hid (fun X => by rw [hy, ← hd]; exact hist_made x ((rows.length : Int) + 1) X)
          have HD := Lib.hid hd
          rw [hd] at p2 hlk
          clear hx k1 hi0 hib hy hkx hd
          by_cases hii : i0 = j
          · have HII := Lib.hid hii
            subst hii
            have t2 : decide ((i0 : Int) = (i0 : Int)) = true := by simp
            cases d
            · go_wp2_with fail
              have HBZ : Hid ((wr.alloc (.cells #[.string x.key, .string x.val, .bool false] 87)).heap[wr.heap.size]? = some (.cells #[.string x.key, .string x.val, .bool false] 87 (0, 0))) := Lib.hid (new_block wr _)
              have HFZ : Hid (Fr [] wr (wr.alloc (.cells #[.string x.key, .string x.val, .bool false] 87))) := Lib.hid ((Fr.refl [] wr).alloc _)
              clear hlk
              generalize wr.alloc (.cells #[.string x.key, .string x.val, .bool false] 87) = wz at *
              have hz0 := HFZ.out.size
              have n1 : ¬ wz.heap.size = p := (by have := HP.out; have := HSZ.out; omega)
              have n2 : ¬ wz.heap.size = wr.heap.size := (by have := lt_of_block HBZ.out; omega)
              obtain ⟨m0, m1, m2, _⟩ := cells3 HBZ.out
              have m3 := HXC.out wz HFZ.out
              have hs9 : o.length ≤ 3000000000 := by omega
              have HOWN : Hid (∀ g, u8.ownBlock = some g → g ≠ p ∧ g ≠ wr.heap.size ∧ g ≠ w.heap.size) := Lib.hid (fun g hg => ⟨(by have := HOUT.out.new g hg; have := HP.out; omega), (by have := HOUT.out.lies.lt g hg; omega), at_not_map HOUT.out.lies HM.out g hg⟩)
              clear hz0
              go_region_held3 (fun w' => (w'.cell? ⟨wr.heap.size, 0, none⟩ = some (.string x.key) ∧ w'.cell? ⟨wr.heap.size, 1, none⟩ = some (.string x.val) ∧ w'.cell? ⟨wr.heap.size, 2, none⟩ = some (.bool false)) ∧ w'.cell? ⟨p, 1, none⟩ = some (.int .i64 rows.length)) (first | go_keep | assumption) (first
                | (go_at_call 32; refine (span_last (r := rows.length) (by first | assumption | exact HXC.out _ HFZ.out.drew)).mono ?_; rintro e w1 ⟨rfl, rfl⟩)
                | (go_at_call 55; refine (HMADE.out _).mono ?_; rintro e w1 ⟨rfl, hf1⟩; have hf2 := HFZ.out.drew.trans hf1 (by simp); have HF1 := Lib.hid hf2; have q4 := HXC.out w1 hf2; have hb9 := ((Fr.refl [] wz).drew.trans hf1 (by simp)).keep HBZ.out (by simp); have HB1 := Lib.hid hb9; obtain ⟨q0, q1, q2, _⟩ := cells3 hb9; have n3 : ¬ w1.heap.size = p := (by have := HP.out; have := HSZ.out; have := hf2.size; omega); have n4 : ¬ w1.heap.size = wr.heap.size := (by have := lt_of_block hb9; omega); clear hf1 hf2 hb9)
                | (refine step_append_any (by rfl) (.tmp 48) (.tmp 56) 50 63 (.agg #[.int .i64 0, .string ⟨#[]⟩, .string ⟨#[]⟩, .bool false]) 4 48 (by rfl) ev_slice ev_info rfl (by decide) _ o.length (allC Ev.cells o) (by rfl) (HOUT.out.lies.keep0 (HF1.out.alloc _)) _ 1 y.cells (by rfl) (lies_row _ 63 y.cells rfl _ rfl) y.cone (by unfold maxLen; omega) (by omega) ?_; intro v2 w2 ho2 hf2 hn2; have ha := HOUT.out.keep (HF1.out.alloc (.cells y.cells.toArray 63)); have HA := Lib.hid (OutAt.app ha (Nat.le_trans HSZ.out (Nat.le_trans HF1.out.size (by simp))) (xs := [y]) (by rw [allC_one]; exact ho2) rfl hn2); have HG := Lib.hid (OutAt.fr ha ((HF.out.trans HF1.out (by simp)).alloc _) hf2); have HM2 := Lib.hid ((HM.out.keep (HF1.out.alloc (.cells y.cells.toArray 63)) (by simp)).keep hf2 (not_own (fun g hg => (HOWN.out g hg).2.2))); obtain ⟨z0, z1, z2, _⟩ := cells3 (hf2.keep (blk_alloc HB1.out _) (not_own (fun g hg => (HOWN.out g hg).2.1))); have z3 := hf2.cell (((Fr.refl [] w1).alloc (.cells y.cells.toArray 63)).cell q4 (by simp)) (not_own (fun g hg => (HOWN.out g hg).1)); clear ho2 hf2 hn2 ha))
              all_goals go_wp2
              all_goals go_roundw
              all_goals first
                | (show _ < _; simp [intOf]; omega)
                | (refine ⟨i0 + 1, o ++ [y], by go_num, by omega, HA.out, ?_, by simp; omega, HM2.out, HG.out⟩; have hs := HS.out; have hc1 : cntB (mapN rows rows.length) x (ops.drop (i0 + 1)) = true := (by unfold cntB; rw [HIB.out.1 trivial, HD.out, Bool.or_comm]; rfl); rw [HSTEP.out, if_pos hc1] at hs; rw [HY.out, ← hs]; simp)
            · have HHAS : Hid (∀ X, Fr [] wr X → Calls Tryz.prog 54 #[.pointer (some ⟨p, 0, none⟩), .string x.key] X fun e w' => e = .returned (.bool (getK x.key (mapN rows rows.length)).isSome) ∧ Fr [] X w') :=
                Lib.hid (fun X hX => by rw [← HTH.out x.key]; exact hist_has (HXS.out X hX) x.key HKX.out (HVL.out x.key))
              obtain ⟨b, hb⟩ : ∃ b, b = (getK x.key (mapN rows rows.length)).isSome := ⟨_, rfl⟩
              rw [← hb] at HHAS
              have HB := Lib.hid hb
              clear hb
              go_wp2_with (go_at_call 54; refine (HHAS.out _ ((Fr.refl [] wr).alloc _)).mono ?_; rintro e wz ⟨rfl, hfz⟩; refine go_stop ?_)
              unfold Stop
              have HBZ := Lib.hid (hfz.keep (new_block wr _) (by simp))
              have HFZ := Lib.hid (((Fr.refl [] wr).alloc _).trans hfz (by simp))
              clear hlk hfz
              cases b
              · have hz9 := lt_of_block HBZ.out
                go_wp2_with fail
                go_roundw
                case rel =>
                  refine ⟨i0 + 1, o, by go_num, by omega, HOUT.out.keep HFZ.out, ?_, by omega, HM.out.keep HFZ.out (by simp), HF.out.trans HFZ.out (by simp)⟩
                  have hs := HS.out
                  have hc0 : cntB (mapN rows rows.length) x (ops.drop (i0 + 1)) = false := by
                    unfold cntB
                    rw [HD.out, ← HB.out]; simp
                  rw [HSTEP.out, hc0] at hs
                  simpa using hs
                case measure => simp [intOf]; omega
              · go_wp2_with fail
                have hz0 := HFZ.out.size
                have n1 : ¬ wz.heap.size = p := (by have := HP.out; have := HSZ.out; omega)
                have n2 : ¬ wz.heap.size = wr.heap.size := (by have := lt_of_block HBZ.out; omega)
                obtain ⟨m0, m1, m2, _⟩ := cells3 HBZ.out
                have m3 := HXC.out wz HFZ.out
                have hs9 : o.length ≤ 3000000000 := by omega
                have HOWN : Hid (∀ g, u8.ownBlock = some g → g ≠ p ∧ g ≠ wr.heap.size ∧ g ≠ w.heap.size) := Lib.hid (fun g hg => ⟨(by have := HOUT.out.new g hg; have := HP.out; omega), (by have := HOUT.out.lies.lt g hg; omega), at_not_map HOUT.out.lies HM.out g hg⟩)
                clear hz0
                go_region_held3 (fun w' => (w'.cell? ⟨wr.heap.size, 0, none⟩ = some (.string x.key) ∧ w'.cell? ⟨wr.heap.size, 1, none⟩ = some (.string x.val) ∧ w'.cell? ⟨wr.heap.size, 2, none⟩ = some (.bool true)) ∧ w'.cell? ⟨p, 1, none⟩ = some (.int .i64 rows.length)) (first | go_keep | assumption) (first
                  | (go_at_call 32; refine (span_last (r := rows.length) (by first | assumption | exact HXC.out _ HFZ.out.drew)).mono ?_; rintro e w1 ⟨rfl, rfl⟩)
                  | (go_at_call 55; refine (HMADE.out _).mono ?_; rintro e w1 ⟨rfl, hf1⟩; have hf2 := HFZ.out.drew.trans hf1 (by simp); have HF1 := Lib.hid hf2; have q4 := HXC.out w1 hf2; have hb9 := ((Fr.refl [] wz).drew.trans hf1 (by simp)).keep HBZ.out (by simp); have HB1 := Lib.hid hb9; obtain ⟨q0, q1, q2, _⟩ := cells3 hb9; have n3 : ¬ w1.heap.size = p := (by have := HP.out; have := HSZ.out; have := hf2.size; omega); have n4 : ¬ w1.heap.size = wr.heap.size := (by have := lt_of_block hb9; omega); clear hf1 hf2 hb9)
                  | (refine step_append_any (by rfl) (.tmp 48) (.tmp 56) 50 63 (.agg #[.int .i64 0, .string ⟨#[]⟩, .string ⟨#[]⟩, .bool false]) 4 48 (by rfl) ev_slice ev_info rfl (by decide) _ o.length (allC Ev.cells o) (by rfl) (HOUT.out.lies.keep0 (HF1.out.alloc _)) _ 1 y.cells (by rfl) (lies_row _ 63 y.cells rfl _ rfl) y.cone (by unfold maxLen; omega) (by omega) ?_; intro v2 w2 ho2 hf2 hn2; have ha := HOUT.out.keep (HF1.out.alloc (.cells y.cells.toArray 63)); have HA := Lib.hid (OutAt.app ha (Nat.le_trans HSZ.out (Nat.le_trans HF1.out.size (by simp))) (xs := [y]) (by rw [allC_one]; exact ho2) rfl hn2); have HG := Lib.hid (OutAt.fr ha ((HF.out.trans HF1.out (by simp)).alloc _) hf2); have HM2 := Lib.hid ((HM.out.keep (HF1.out.alloc (.cells y.cells.toArray 63)) (by simp)).keep hf2 (not_own (fun g hg => (HOWN.out g hg).2.2))); obtain ⟨z0, z1, z2, _⟩ := cells3 (hf2.keep (blk_alloc HB1.out _) (not_own (fun g hg => (HOWN.out g hg).2.1))); have z3 := hf2.cell (((Fr.refl [] w1).alloc (.cells y.cells.toArray 63)).cell q4 (by simp)) (not_own (fun g hg => (HOWN.out g hg).1)); clear ho2 hf2 hn2 ha))
                all_goals go_wp2
                all_goals go_roundw
                all_goals first
                  | (show _ < _; simp [intOf]; omega)
                  | (refine ⟨i0 + 1, o ++ [y], by go_num, by omega, HA.out, ?_, by simp; omega, HM2.out, HG.out⟩; have hs := HS.out; have hc1 : cntB (mapN rows rows.length) x (ops.drop (i0 + 1)) = true := (by unfold cntB; rw [HIB.out.1 trivial, ← HB.out]; rfl); rw [HSTEP.out, if_pos hc1] at hs; rw [HY.out, ← hs]; simp)
          · have t2 : decide ((i0 : Int) = (j : Int)) = false := by simp; omega
            have t3 : ¬ ((i0 : Int) = (j : Int)) := by omega
            have HII := Lib.hid hii
            clear hii
            go_wp2_with fail
            go_roundw
            case rel =>
              refine ⟨j + 1, o, by go_num, by omega, HOUT.out.keep ((Fr.refl [] wr).alloc _), ?_, by omega, HM.out.keep ((Fr.refl [] wr).alloc _) (by simp), HF.out.trans ((Fr.refl [] wr).alloc _) (by simp)⟩
              have hs := HS.out
              have hc0 : cntB (mapN rows rows.length) x (ops.drop (j + 1)) = false := by
                have h1 : (ops.drop (j + 1)).any (fun y => decide (y.key = x.key)) = true := by
                  cases ha : (ops.drop (j + 1)).any (fun y => decide (y.key = x.key)) with
                  | true => rfl
                  | false => exact absurd (HIB.out.2 ha) HII.out
                unfold cntB
                rw [h1]; rfl
              rw [HSTEP.out, hc0] at hs
              simpa using hs
            case measure => simp [intOf]; omega
        · have t1 : decide (j < ops.length) = false := by simpa using h
          obtain rfl : j = ops.length := by omega
          go_wp2
          go_ret
          have hs := HS.out
          rw [List.drop_length] at hs
          have hs2 : o = rowOf rows ops := by simpa [countO] using hs
          exact ⟨_, rfl, by rw [← hs2]; exact HOUT.out, HF.out⟩
end Go.Proofs.YtmipllkgioakoaaGreat
