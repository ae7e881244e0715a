/- PACKAGE txn: mayCmps, mayOps: contracts (written by gen_txmay.py)
PACKAGE txn: Keys: contract
PACKAGE txn: mayTxn, may: contracts
PACKAGE txn: its contracts -/
import Derived.Test.YtmipllkgioakoaaGreatTxGat
import Derived.Test.YtmipllkgioakoaaGreatTxPlan
import Derived.Test.YtmipllkgioakoaaGreatKeyA
import Derived.Test.YtmipllkgioakoaaGreatKeyMr
namespace Go.Proofs.YtmipllkgioakoaaGreat
open Go.RowKit
set_option linter.unusedVariables false
set_option linter.unusedSimpArgs false

def cm1 (c : Cm) : Bool := decide (c.kind = 1 ∨ c.kind = 2) && decide (c.val.size ≤ 8) && decide (0 ≤ c.rev)
def od1 (o : Od) : Bool := decide (o.val.size ≤ 8) && !(o.del && decide (0 < o.val.size))
theorem odall_take {p : Od → Bool} {l : List Od} {j : Nat} {x : Od} (hx : l[j]? = some x) : (l.take (j + 1)).all p = ((l.take j).all p && p x) := by
  rw [List.take_add_one, hx, List.all_append]; simp
theorem odall_no {p : Od → Bool} {l : List Od} {j : Nat} {x : Od} (hx : l[j]? = some x) (h : p x = false) : l.all p = false := by
  rw [List.all_eq_false]
  exact ⟨x, List.mem_of_getElem? hx, by simp [h]⟩
set_option maxHeartbeats 1000000 in
set_option maxRecDepth 100000 in
theorem tx_mayCmps (lv : Value) (l : List Cm) (w : World) (hl : CmIn w lv l) (bl : l.length ≤ many) : Calls Tryz.prog 61 #[lv] w fun e w' => e = .returned (.bool (l.all cm1)) ∧ Fr [] w w' := by
  unfold many at bl
  obtain ⟨s1, c1, rfl, la, ma⟩ := LIn.form hl
  unfold maxLen at ma
  have HL := Lib.hid hl
  clear hl
  go_enter Tryz.func61, Tryz.ntmps61
  go_wp2_with fail
  go_loopw [7] (fun i wr => ∃ (j : Nat), i = .int .i64 j ∧ j ≤ l.length ∧ (l.take j).all cm1 = true ∧ Fr [] w wr) (fun i _ => l.length - (intOf i).toNat)
  case atStart => exact ⟨0, rfl, Nat.zero_le _, by simp, Fr.refl _ _⟩
  case round =>
    obtain ⟨j, rfl, hj, hs, hf⟩ := hrel
    have HS := Lib.hid hs
    have HF := Lib.hid hf
    clear hs hf
    by_cases h : j < l.length
    · obtain ⟨x, hx⟩ : ∃ x, l[j]? = some x := ⟨_, List.getElem?_eq_getElem h⟩
      obtain ⟨g, off, d1, e1, _, l1, k1⟩ := CmIn.here (LIn.keep0 HL.out HF.out) (by omega)
      simp only [Value.slice.injEq] at e1
      obtain ⟨rfl, _, rfl⟩ := e1
      obtain ⟨p0, p1, p2, p3⟩ := k1 j x hx
      have HX := Lib.hid hx
      have t1 : decide (j < l.length) = true := by simpa using h
      obtain ⟨kd, hkd⟩ : ∃ k, x.kind = k := ⟨_, rfl⟩
      have hv := x.wf.2
      rw [hkd] at p0
      have HKD := Lib.hid hkd
      have HF2 := Lib.hid (HF.out.alloc (.cells #[.int .i64 kd, .string x.key, .string x.val, .int .i64 x.rev] 126))
      clear hx k1 hkd
      unfold maxLen at hv
      by_cases hk : kd = 1 ∨ kd = 2
      · by_cases hv8 : x.val.size ≤ 8
        · have t2 : decide ((8 : Int) < (x.val.size : Int)) = false := by simp; omega
          by_cases hr : 0 ≤ x.rev
          · have t3 : decide (x.rev < 0) = false := by simp; omega
            have HT : Hid ((l.take (j + 1)).all cm1 = true) := Lib.hid (by rw [all_take HX.out, HS.out]; simp only [cm1, Bool.true_and, Bool.and_eq_true, decide_eq_true_eq]; exact ⟨⟨by rw [HKD.out]; exact hk, hv8⟩, hr⟩)
            rcases hk with rfl | rfl
            all_goals
              go_wp2_with fail
              go_roundw
              case rel => exact ⟨j + 1, by go_num, by omega, HT.out, HF2.out⟩
              case measure => simp [intOf]; omega
          · have t3 : decide (x.rev < 0) = true := by simp; omega
            have HR : Hid (l.all cm1 = false) := Lib.hid (all_no HX.out (by simp [cm1, hr]))
            clear hr
            rcases hk with rfl | rfl
            all_goals
              go_wp2
              go_ret
              exact ⟨by rw [HR.out]; rfl, HF2.out⟩
        · have t2 : decide ((8 : Int) < (x.val.size : Int)) = true := by simp; omega
          have HR : Hid (l.all cm1 = false) := Lib.hid (all_no HX.out (by simp [cm1, hv8]))
          clear hv8
          rcases hk with rfl | rfl
          all_goals
            go_wp2
            go_ret
            exact ⟨by rw [HR.out]; rfl, HF2.out⟩
      · have n1 : ¬ kd = 1 := fun e => hk (Or.inl e)
        have n2 : ¬ kd = 2 := fun e => hk (Or.inr e)
        have HR : Hid (l.all cm1 = false) := Lib.hid (all_no HX.out (by simp only [cm1, HKD.out, hk]; simp))
        clear hk
        go_wp2
        go_ret
        exact ⟨by rw [HR.out]; rfl, HF2.out⟩
    · have t1 : decide (j < l.length) = false := by simpa using h
      have hj2 : j = l.length := by omega
      subst hj2
      have HR : Hid (l.all cm1 = true) := Lib.hid (by have := HS.out; rw [List.take_length] at this; exact this)
      go_wp2
      go_ret
      exact ⟨by rw [HR.out]; rfl, HF.out⟩
theorem rows_one (w : World) (v : Value) (l : List ByteArray) (h : StIn w v l) : Rows (w.alloc (.cells #[v] 106)) (.slice (some ⟨w.heap.size, 0, none⟩) 1 1) [(v, l)] := by
  refine ⟨⟨some ⟨w.heap.size, 0, none⟩, 1, rfl, Nat.le_refl _, by unfold maxLen; omega, fun _ => ⟨w.heap.size, 0, rfl, by simp, fun i x hx j hj => ?_⟩⟩, fun x hx => ?_⟩
  · have hi : i = 0 := by have := (List.getElem?_eq_some_iff.1 hx).1; simp at this; omega
    subst hi
    obtain rfl : j = 0 := by omega
    simp at hx
    subst hx
    rw [cell_block (new_block w _)]
    rfl
  · simp at hx
    subst hx
    exact LIn.keep0 h ((Fr.refl [] w).alloc _)
set_option maxHeartbeats 1000000 in
set_option maxRecDepth 100000 in
theorem tx_mayOps (lv : Value) (l : List Od) (w : World) (hl : OdIn w lv l) (bl : l.length ≤ many) : Calls Tryz.prog 62 #[lv] w fun e w' => e = .returned (.bool (l.all od1 && decide ((l.map Od.key).Nodup))) ∧ Fr [] w w' := by
  unfold many at bl
  obtain ⟨s1, c1, rfl, la, ma⟩ := LIn.form hl
  unfold maxLen at ma
  have HL := Lib.hid hl
  clear hl
  go_enter Tryz.func62, Tryz.ntmps62
  go_wp2_with fail
  go_loopw [7] (fun i wr => ∃ (j : Nat), i = .int .i64 j ∧ j ≤ l.length ∧ (l.take j).all od1 = true ∧ Fr [] w wr) (fun i _ => l.length - (intOf i).toNat)
  case atStart => exact ⟨0, rfl, Nat.zero_le _, by simp, Fr.refl _ _⟩
  case round =>
    obtain ⟨j, rfl, hj, hs, hf⟩ := hrel
    have HS := Lib.hid hs
    have HF := Lib.hid hf
    clear hs hf
    by_cases h : j < l.length
    · obtain ⟨x, hx⟩ : ∃ x, l[j]? = some x := ⟨_, List.getElem?_eq_getElem h⟩
      obtain ⟨g, off, d1, e1, _, l1, k1⟩ := OdIn.here (LIn.keep0 HL.out HF.out) (by omega)
      simp only [Value.slice.injEq] at e1
      obtain ⟨rfl, _, rfl⟩ := e1
      obtain ⟨p0, p1, p2⟩ := k1 j x hx
      have HX := Lib.hid hx
      have t1 : decide (j < l.length) = true := by simpa using h
      obtain ⟨dd, hdd⟩ : ∃ k, x.del = k := ⟨_, rfl⟩
      have hv := x.wf.2
      rw [hdd] at p2
      have HDD := Lib.hid hdd
      have HF2 := Lib.hid (HF.out.alloc (.cells #[.string x.key, .string x.val, .bool dd] 87))
      clear hx k1 hdd
      unfold maxLen at hv
      by_cases hv8 : x.val.size ≤ 8
      · have t2 : decide ((8 : Int) < (x.val.size : Int)) = false := by simp; omega
        cases dd
        · have HT : Hid ((l.take (j + 1)).all od1 = true) := Lib.hid (by rw [odall_take HX.out, HS.out]; simp [od1, HDD.out, hv8])
          go_wp2_with fail
          go_roundw
          case rel => exact ⟨j + 1, by go_num, by omega, HT.out, HF2.out⟩
          case measure => simp [intOf]; omega
        · by_cases hv0 : x.val = ⟨#[]⟩
          · have HT : Hid ((l.take (j + 1)).all od1 = true) := Lib.hid (by
              rw [odall_take HX.out, HS.out]
              have : x.val.size = 0 := by rw [hv0]; rfl
              simp [od1, HDD.out, this])
            rw [hv0] at p1 t2 HF2
            clear hv0 hv8 hv
            go_wp2_with fail
            go_roundw
            case rel => exact ⟨j + 1, by go_num, by omega, HT.out, HF2.out⟩
            case measure => simp [intOf]; omega
          · have hpos : 0 < x.val.size := by
              rcases Nat.eq_zero_or_pos x.val.size with h0 | h0
              · exact absurd (bs_inj (by rw [ByteArray.toList_eq, ByteArray.toList_eq]; exact List.eq_nil_of_length_eq_zero (by simpa using h0))) hv0
              · exact h0
            have t3 : (x.val.toList == ([] : List UInt8)) = false := by
              rw [beq_eq_false_iff_ne]; intro e; exact hv0 (bs_inj (by rw [e]; simp [ByteArray.toList_eq]))
            have HR : Hid (l.all od1 = false) := Lib.hid (odall_no HX.out (by simp [od1, HDD.out, hpos]))
            have HRR : Hid ((l.all od1 && decide ((l.map Od.key).Nodup)) = false) := Lib.hid (by rw [HR.out]; rfl)
            clear hv0 hpos
            go_wp2
            go_ret
            exact ⟨by rw [HRR.out]; rfl, HF2.out⟩
      · have t2 : decide ((8 : Int) < (x.val.size : Int)) = true := by simp; omega
        have HR : Hid (l.all od1 = false) := Lib.hid (odall_no HX.out (by simp [od1, hv8]))
        have HRR : Hid ((l.all od1 && decide ((l.map Od.key).Nodup)) = false) := Lib.hid (by rw [HR.out]; rfl)
        clear hv8
        go_wp2
        go_ret
        exact ⟨by rw [HRR.out]; rfl, HF2.out⟩
    · have t1 : decide (j < l.length) = false := by simpa using h
      have hj2 : j = l.length := by omega
      subst hj2
      have HR : Hid (l.all od1 = true) := Lib.hid (by have := HS.out; rw [List.take_length] at this; exact this)
      go_wp2_with (go_at_call 75; refine (tx_changed _ l _ (LIn.keep0 HL.out HF.out) (by unfold many; omega)).mono ?_; rintro e w1 ⟨v1, rfl, ho, hf1⟩; refine go_stop ?_)
      unfold Stop
      obtain ⟨s2, c2, rfl⟩ : ∃ s c, v1 = .slice s l.length c := by obtain ⟨s, c, h, _⟩ := ho.lies.form; rw [List.length_map] at h; exact ⟨s, c, h⟩
      have HF1 := Lib.hid (HF.out.trans hf1 (by simp))
      have HROW := Lib.hid (rows_one _ _ _ (LAt.read ho.lies stC_len))
      clear ho hf1
      go_wp2_with (go_at_call 73; refine (tx_gather _ [(.slice s2 l.length c2, l.map Od.key)] _ HROW.out (by unfold many; simp) (by unfold many; simp [total]; omega)).mono ?_; rintro e w2 ⟨v2, ks, rfl, h2, h3, h4⟩; refine go_stop ?_)
      unfold Stop
      obtain ⟨s3, c3, rfl, la3, ma3⟩ := LIn.form h2
      have h3' : Gath (l.map Od.key) ks := by simpa using h3
      have hle := h3'.le
      rw [List.length_map] at hle
      have HG : Hid ((l.all od1 && decide ((l.map Od.key).Nodup)) = decide (ks.length = l.length)) := Lib.hid (by rw [HR.out, ← h3'.len, List.length_map]; rfl)
      have HF3 := Lib.hid ((HF1.out.alloc _).trans h4 (by simp))
      clear h2 h3 h3' h4
      unfold maxLen at ma3
      go_wp2
      go_ret
      have hbe : ((ks.length : Int) == (l.length : Int)) = decide (ks.length = l.length) := by rw [Bool.eq_iff_iff]; simp; omega
      exact ⟨by rw [HG.out, ← hbe]; rfl, HF3.out⟩
end Go.Proofs.YtmipllkgioakoaaGreat
namespace Go.Proofs.YtmipllkgioakoaaGreat
open Go.RowKit
set_option linter.unusedVariables false
set_option linter.unusedSimpArgs false

theorem rows_three (w : World) (u v x : Value) (a b c : List ByteArray) (ha : StIn w u a) (hb : StIn w v b) (hc : StIn w x c) : Rows (w.alloc (.cells #[u, v, x] 106)) (.slice (some ⟨w.heap.size, 0, none⟩) 3 3) [(u, a), (v, b), (x, c)] := by
  refine ⟨⟨some ⟨w.heap.size, 0, none⟩, 3, rfl, Nat.le_refl _, by unfold maxLen; omega, fun _ => ⟨w.heap.size, 0, rfl, by simp, fun i y hy j hj => ?_⟩⟩, fun y hy => ?_⟩
  · have hi : i < 3 := by have := (List.getElem?_eq_some_iff.1 hy).1; simpa using this
    obtain rfl : j = 0 := by omega
    rw [cell_block (new_block w _)]
    rcases (by omega : i = 0 ∨ i = 1 ∨ i = 2) with rfl | rfl | rfl <;> (simp at hy; subst hy; rfl)
  · have hf := (Fr.refl [] w).alloc (.cells #[u, v, x] 106)
    simp at hy
    rcases hy with rfl | rfl | rfl
    · exact LIn.keep0 ha hf
    · exact LIn.keep0 hb hf
    · exact LIn.keep0 hc hf
theorem keysL_flat (q : Rq) (u v x : Value) : ([(u, q.cmps.map Cm.key), (v, q.thn.map Od.key), (x, q.els.map Od.key)] : List (Value × List ByteArray)).flatMap (·.2) = keysL q := by
  unfold keysL; simp
/-- a list's keys: where they lie -/
theorem keys_form {α : Type} {f : α → ByteArray} {l : List α} {P : Program} {F : FuncId} {args : Array Value} {w : World} (h : Calls P F args w fun e w' => ∃ v, e = .returned v ∧ OutAt stC 9 1 w w' v (l.map f) ∧ Fr [] w w') :
    Calls P F args w fun e w' => ∃ s c, e = .returned (.slice s l.length c) ∧ StIn w' (.slice s l.length c) (l.map f) ∧ Fr [] w w' := by
  refine h.mono ?_
  rintro e w' ⟨v, rfl, ho, hf⟩
  obtain ⟨s, c, hv, _⟩ := ho.lies.form
  rw [List.length_map] at hv
  subst hv
  exact ⟨s, c, rfl, LAt.read ho.lies stC_len, hf⟩
theorem drew_trans {a b : World} (h : Fr [] a.drew b) : Fr [] a b := ((Fr.refl [] a).drew).trans h (by simp)
set_option maxHeartbeats 2000000 in
theorem txn_keysG (q : Rq) (cv tv ev : Value) (w : World) (h : RqIn w q cv tv ev) (b0 : q.cmps.length ≤ 20) (b1 : q.thn.length ≤ 20) (b2 : q.els.length ≤ 20) : Calls Tryz.prog 59 #[.agg #[.int .i64 q.kind, .string q.f, .string q.t, .int .i64 q.rev, cv, tv, ev]] w fun e w' =>
    ∃ v ks, e = .returned v ∧ StIn w' v ks ∧ Gath (keysL q) ks ∧ Fr [] w w' := by
  obtain ⟨wb, hwb⟩ : ∃ wb, wb = w.alloc (rqB q cv tv ev) := ⟨_, rfl⟩
  have HWB : Hid (wb = w.alloc (.cells #[.int .i64 q.kind, .string q.f, .string q.t, .int .i64 q.rev, cv, tv, ev] 35)) := Lib.hid hwb
  have HF : Hid (Fr [] w wb) := Lib.hid (by rw [hwb]; exact (Fr.refl [] w).alloc _)
  have HR := Lib.hid (h.keep0 HF.out)
  obtain ⟨_, _, _, _, c4, c5, c6, _⟩ := cells7 (show wb.heap[w.heap.size]? = some (.cells #[.int .i64 q.kind, .string q.f, .string q.t, .int .i64 q.rev, cv, tv, ev] 35 (0, 0)) by rw [hwb]; exact new_block w _)
  have HC : Hid (∀ X, Fr [] wb X → Calls Tryz.prog 74 #[cv] X fun e w' => ∃ s c, e = .returned (.slice s q.cmps.length c) ∧ StIn w' (.slice s q.cmps.length c) (q.cmps.map Cm.key) ∧ Fr [] X w') := Lib.hid fun X hX => keys_form (tx_compared cv q.cmps X (LIn.keep0 HR.out.c hX) (by unfold many; omega))
  have HT : Hid (∀ X, Fr [] wb X → Calls Tryz.prog 75 #[tv] X fun e w' => ∃ s c, e = .returned (.slice s q.thn.length c) ∧ StIn w' (.slice s q.thn.length c) (q.thn.map Od.key) ∧ Fr [] X w') := Lib.hid fun X hX => keys_form (tx_changed tv q.thn X (LIn.keep0 HR.out.t hX) (by unfold many; omega))
  have HE : Hid (∀ X, Fr [] wb X → Calls Tryz.prog 75 #[ev] X fun e w' => ∃ s c, e = .returned (.slice s q.els.length c) ∧ StIn w' (.slice s q.els.length c) (q.els.map Od.key) ∧ Fr [] X w') := Lib.hid fun X hX => keys_form (tx_changed ev q.els X (LIn.keep0 HR.out.e hX) (by unfold many; omega))
  clear hwb h
  go_enter Tryz.func59, Tryz.ntmps59
  go_wp2_with fail
  rw [← HWB.out]
  have M : Hid True := Lib.hid trivial
  go_region_held3 (fun w' => w'.cell? ⟨w.heap.size, 4, none⟩ = some cv ∧ w'.cell? ⟨w.heap.size, 5, none⟩ = some tv ∧ w'.cell? ⟨w.heap.size, 6, none⟩ = some ev) (first | go_keep | (exact ⟨by assumption, by assumption, by assumption⟩)) (first
    | (go_at_call 74; refine (HC.out _ (by first | exact (Fr.refl _ _).drew | exact Fr.refl _ _)).mono ?_; rintro e w1 ⟨s1, k1, rfl, ho, hf⟩; have F1 := Lib.hid (drew_trans hf); have H1 := Lib.hid ho; have e4 := F1.out.cell c4 (by simp); have e5 := F1.out.cell c5 (by simp); have e6 := F1.out.cell c6 (by simp); clear ho hf c4 c5 c6)
    | (go_at_call 75; have hm := M.out; clear hm M; refine (HT.out _ (by first | exact F1.out | exact F1.out.drew)).mono ?_; rintro e w2 ⟨s2, k2, rfl, ho, hf⟩; have F2 := Lib.hid (F1.out.trans hf (by simp)); have G2 := Lib.hid hf; have H2 := Lib.hid ho; have g4 := hf.cell e4 (by simp); have g5 := hf.cell e5 (by simp); have g6 := hf.cell e6 (by simp); clear ho hf e4 e5 e6)
    | (go_at_call 75; refine (HE.out _ (by first | exact F2.out | exact F2.out.drew)).mono ?_; rintro e w3 ⟨s3, k3, rfl, ho, hf⟩; have F3 := Lib.hid (F2.out.trans hf (by simp)); have G3 := Lib.hid hf; have H3 := Lib.hid ho; have i4 := hf.cell g4 (by simp); have i5 := hf.cell g5 (by simp); have i6 := hf.cell g6 (by simp); clear ho hf g4 g5 g6)
    | (go_at_call 73; refine (tx_gather _ [(.slice s1 q.cmps.length k1, q.cmps.map Cm.key), (.slice s2 q.thn.length k2, q.thn.map Od.key), (.slice s3 q.els.length k3, q.els.map Od.key)] _ (rows_three w3 _ _ _ _ _ _ (LIn.keep0 H1.out (G2.out.trans G3.out (by simp))) (LIn.keep0 H2.out G3.out) H3.out) (by unfold many; simp) (by unfold many; simp [total]; omega)).mono ?_; rintro e w4 ⟨v4, ks, rfl, h4, hg, hf⟩; have H4 := Lib.hid h4; have HG := Lib.hid hg; have F4 := Lib.hid ((F3.out.alloc _).trans hf (by simp)); have j4 := ((Fr.refl [] w3).alloc _).cell i4 (by simp) |> fun h => hf.cell h (by simp); have j5 := ((Fr.refl [] w3).alloc _).cell i5 (by simp) |> fun h => hf.cell h (by simp); have j6 := ((Fr.refl [] w3).alloc _).cell i6 (by simp) |> fun h => hf.cell h (by simp); clear h4 hg hf i4 i5 i6))
  go_wp2
  go_ret
  refine ⟨_, ks, rfl, H4.out, ?_, HF.out.trans F4.out (by simp)⟩
  rw [← keysL_flat]; exact HG.out
end Go.Proofs.YtmipllkgioakoaaGreat
namespace Go.Proofs.YtmipllkgioakoaaGreat
open Go.RowKit
set_option linter.unusedVariables false
set_option linter.unusedSimpArgs false

def mayTB (q : Rq) : Bool := cmsB q.cmps && opsB q.thn && opsB q.els
def keysB (l : List ByteArray) : Bool := l.all (fun k => mayB k.toList)
theorem keysB_ext {a b : List ByteArray} (h : ∀ k, k ∈ a ↔ k ∈ b) : keysB a = keysB b := by
  unfold keysB
  rw [Bool.eq_iff_iff, List.all_eq_true, List.all_eq_true]
  exact ⟨fun g k hk => g k ((h k).2 hk), fun g k hk => g k ((h k).1 hk)⟩
theorem cmsB_eq (l : List Cm) : cmsB l = (keysB (l.map Cm.key) && l.all cm1 && decide (l.length ≤ 4)) := by
  unfold cmsB keysB
  congr 1
  rw [Bool.eq_iff_iff, Bool.and_eq_true, List.all_eq_true, List.all_eq_true, List.all_eq_true]
  constructor
  · intro h
    refine ⟨fun k hk => ?_, fun c hc => ?_⟩
    · obtain ⟨c, hc, rfl⟩ := List.mem_map.1 hk
      have := h c hc
      simp only [cmB, Bool.and_eq_true] at this
      exact this.1.1.1
    · have := h c hc
      simp only [cmB, Bool.and_eq_true] at this
      simp only [cm1, Bool.and_eq_true]
      exact ⟨⟨this.1.1.2, this.1.2⟩, this.2⟩
  · rintro ⟨h1, h2⟩ c hc
    have a := h1 _ (List.mem_map.2 ⟨c, hc, rfl⟩)
    have b := h2 c hc
    simp only [cm1, Bool.and_eq_true] at b
    simp only [cmB, Bool.and_eq_true]
    exact ⟨⟨⟨a, b.1.1⟩, b.1.2⟩, b.2⟩
theorem opsB_eq (l : List Od) : opsB l = (keysB (l.map Od.key) && (l.all od1 && decide ((l.map Od.key).Nodup)) && decide (l.length ≤ 4)) := by
  unfold opsB keysB
  congr 1
  rw [← Bool.and_assoc]
  congr 1
  rw [Bool.eq_iff_iff, Bool.and_eq_true, List.all_eq_true, List.all_eq_true, List.all_eq_true]
  constructor
  · intro h
    refine ⟨fun k hk => ?_, fun c hc => ?_⟩
    · obtain ⟨c, hc, rfl⟩ := List.mem_map.1 hk
      have := h c hc
      simp only [opB, Bool.and_eq_true] at this
      exact this.1.1
    · have := h c hc
      simp only [opB, Bool.and_eq_true] at this
      simp only [od1, Bool.and_eq_true]
      exact ⟨this.1.2, this.2⟩
  · rintro ⟨h1, h2⟩ c hc
    have a := h1 _ (List.mem_map.2 ⟨c, hc, rfl⟩)
    have b := h2 c hc
    simp only [od1, Bool.and_eq_true] at b
    simp only [opB, Bool.and_eq_true]
    exact ⟨⟨a, b.1⟩, b.2⟩
def fourB (q : Rq) : Bool := decide (q.cmps.length ≤ 4) && decide (q.thn.length ≤ 4) && decide (q.els.length ≤ 4)
theorem mayTB_eq (q : Rq) : mayTB q = (fourB q && keysB (keysL q) && (q.cmps.all cm1 && (q.thn.all od1 && decide ((q.thn.map Od.key).Nodup)) && (q.els.all od1 && decide ((q.els.map Od.key).Nodup)))) := by
  unfold mayTB
  rw [cmsB_eq, opsB_eq, opsB_eq]
  unfold keysL keysB fourB
  rw [List.all_append, List.all_append]
  generalize (q.cmps.map Cm.key).all _ = a1
  generalize (q.thn.map Od.key).all _ = a2
  generalize (q.els.map Od.key).all _ = a3
  generalize q.cmps.all cm1 = b1
  generalize (q.thn.all od1 && decide ((q.thn.map Od.key).Nodup)) = b2
  generalize (q.els.all od1 && decide ((q.els.map Od.key).Nodup)) = b3
  generalize decide (q.cmps.length ≤ 4) = c1
  generalize decide (q.thn.length ≤ 4) = c2
  generalize decide (q.els.length ≤ 4) = c3
  revert a1 a2 a3 b1 b2 b3 c1 c2 c3
  decide
theorem keysL_wf {q : Rq} {k : ByteArray} (h : k ∈ keysL q) : k.size ≤ maxLen := by
  unfold keysL at h
  simp only [List.mem_append, List.mem_map] at h
  rcases h with (⟨c, _, rfl⟩ | ⟨c, _, rfl⟩) | ⟨c, _, rfl⟩
  · exact c.wf.1
  · exact c.wf.1
  · exact c.wf.1
theorem kall_take {p : ByteArray → Bool} {l : List ByteArray} {j : Nat} {x : ByteArray} (hx : l[j]? = some x) : (l.take (j + 1)).all p = ((l.take j).all p && p x) := by
  rw [List.take_add_one, hx, List.all_append]; simp
theorem kall_no {p : ByteArray → Bool} {l : List ByteArray} {j : Nat} {x : ByteArray} (hx : l[j]? = some x) (h : p x = false) : l.all p = false := by
  rw [List.all_eq_false]
  exact ⟨x, List.mem_of_getElem? hx, by simp [h]⟩
theorem run_max3 {P : Program} (a b c : Nat) : ∃ m : Nat, (∀ ts ty W, (Builtin.max_ ts ty #[.int .i64 a, .int .i64 b, .int .i64 c]).run P W = .ok (.int .i64 m) W) ∧ (m ≤ 4 ↔ (a ≤ 4 ∧ b ≤ 4 ∧ c ≤ 4)) := by
  refine ⟨max (max a b) c, fun ts ty W => ?_, by omega⟩
  simp only [Builtin.max_, List.foldlM, Builtin.max2]
  simp
  split <;> split <;> omega
set_option maxHeartbeats 2000000 in
theorem tx_mayTxn (q : Rq) (cv tv ev : Value) (w : World) (h : RqIn w q cv tv ev) : Calls Tryz.prog 43 #[.agg #[.int .i64 q.kind, .string q.f, .string q.t, .int .i64 q.rev, cv, tv, ev]] w fun e w' => e = .returned (.bool (mayTB q)) ∧ Fr [] w w' := by
  obtain ⟨s1, c1, rfl, la1, ma1⟩ := LIn.form h.c
  obtain ⟨s2, c2, rfl, la2, ma2⟩ := LIn.form h.t
  obtain ⟨s3, c3, rfl, la3, ma3⟩ := LIn.form h.e
  unfold maxLen at ma1 ma2 ma3
  obtain ⟨wb, hwb⟩ : ∃ wb, wb = w.alloc (rqB q (.slice s1 q.cmps.length c1) (.slice s2 q.thn.length c2) (.slice s3 q.els.length c3)) := ⟨_, rfl⟩
  have HWB : Hid (wb = w.alloc (.cells #[.int .i64 q.kind, .string q.f, .string q.t, .int .i64 q.rev, .slice s1 q.cmps.length c1, .slice s2 q.thn.length c2, .slice s3 q.els.length c3] 35)) := Lib.hid hwb
  have HF : Hid (Fr [] w wb) := Lib.hid (by rw [hwb]; exact (Fr.refl [] w).alloc _)
  have HR := Lib.hid (h.keep0 HF.out)
  have HX : Hid (wb.heap[w.heap.size]? = some (.cells #[.int .i64 q.kind, .string q.f, .string q.t, .int .i64 q.rev, .slice s1 q.cmps.length c1, .slice s2 q.thn.length c2, .slice s3 q.els.length c3] 35 (0, 0))) := Lib.hid (by rw [hwb]; exact new_block w _)
  obtain ⟨d0, d1, d2, d3, d4, d5, d6, _⟩ := cells7 HX.out
  have HE := Lib.hid (mayTB_eq q)
  obtain ⟨m, hmx, hm4⟩ := run_max3 (P := Tryz.prog) q.cmps.length q.thn.length q.els.length
  clear hwb h
  go_enter Tryz.func43, Tryz.ntmps43
  by_cases h4 : m ≤ 4
  · have t1 : decide ((4 : Int) < (m : Int)) = false := by simp; omega
    have H4 := Lib.hid (hm4.1 h4)
    clear hm4 h4
    go_upto_region 1 with fail
    rw [← HWB.out]
    go_wp2_with (go_at_call 59; refine (txn_keysG q _ _ _ _ HR.out (by have := H4.out; omega) (by have := H4.out; omega) (by have := H4.out; omega)).mono ?_; rintro e w1 ⟨v1, ks, rfl, h1, h2, h3⟩; refine go_stop ?_)
    unfold Stop
    obtain ⟨s4, c4, rfl, la4, ma4⟩ := LIn.form h1
    have hkl : ks.length ≤ 12 := by
      have := h2.le
      have h5 := H4.out
      unfold keysL at this
      simp at this; omega
    have HKS := Lib.hid h1
    have HG := Lib.hid h2
    have HE2 : Hid (mayTB q = (keysB ks && (q.cmps.all cm1 && (q.thn.all od1 && decide ((q.thn.map Od.key).Nodup)) && (q.els.all od1 && decide ((q.els.map Od.key).Nodup))))) := Lib.hid (by
      rw [HE.out, keysB_ext h2.mem]
      have : fourB q = true := by unfold fourB; simp [H4.out]
      rw [this, Bool.true_and])
    have HF1 := Lib.hid h3
    clear h1 h2 h3 HE t1 hmx d0 d1 d2 d3 d4 d5 d6
    unfold maxLen at ma4
    go_wp2_with fail
    go_loopw [19] (fun i wr => ∃ (j : Nat), i = .int .i64 j ∧ j ≤ ks.length ∧ keysB (ks.take j) = true ∧ Fr [] w1 wr) (fun i _ => ks.length - (intOf i).toNat)
    case atStart => exact ⟨0, rfl, Nat.zero_le _, by simp [keysB], Fr.refl _ _⟩
    case round =>
      obtain ⟨j, rfl, hj, hs, hf⟩ := hrel
      have HS := Lib.hid hs
      have HFK := Lib.hid hf
      have HF2 := Lib.hid (HF1.out.trans hf (by simp))
      clear hs hf
      by_cases h : j < ks.length
      · obtain ⟨x, hx⟩ : ∃ x, ks[j]? = some x := ⟨_, List.getElem?_eq_getElem h⟩
        obtain ⟨g, off, e1, e2, _, _, k1⟩ := StIn.here (LIn.keep0 HKS.out HFK.out) (by omega)
        simp only [Value.slice.injEq] at e2
        obtain ⟨rfl, _, rfl⟩ := e2
        have p0 := k1 j x hx
        have HXX := Lib.hid hx
        have HW : Hid (x.size ≤ maxLen) := Lib.hid (keysL_wf ((HG.out.mem x).1 (List.mem_of_getElem? hx)))
        have t1 : decide (j < ks.length) = true := by simpa using h
        clear hx k1
        go_wp2_with (go_at_call 60; refine (key_may x _ HW.out).mono ?_; rintro e wn ⟨rfl, hfn⟩; refine go_stop ?_)
        unfold Stop
        have HFN := Lib.hid (HFK.out.trans hfn (by simp))
        clear hfn p0
        cases hb : mayB x.toList
        · have HN : Hid (mayTB q = false) := Lib.hid (by
            have : keysB ks = false := kall_no (p := fun k => mayB k.toList) HXX.out hb
            rw [HE2.out, this]; rfl)
          have HFE := Lib.hid (HF.out.trans (HF1.out.trans HFN.out (by simp)) (by simp))
          clear hb
          go_wp2
          go_ret
          exact ⟨by rw [HN.out]; rfl, HFE.out⟩
        · have HT : Hid (keysB (ks.take (j + 1)) = true) := Lib.hid (by
            have h1 := HS.out
            unfold keysB at h1 ⊢
            rw [kall_take HXX.out, h1, hb]; rfl)
          clear hb
          go_wp2_with fail
          go_roundw
          case rel => exact ⟨j + 1, by go_num, by omega, HT.out, HFN.out⟩
          case measure => simp [intOf]; omega
      · have t1 : decide (j < ks.length) = false := by simpa using h
        have hj2 : j = ks.length := by omega
        subst hj2
        have HE3 : Hid (mayTB q = (q.cmps.all cm1 && (q.thn.all od1 && decide ((q.thn.map Od.key).Nodup)) && (q.els.all od1 && decide ((q.els.map Od.key).Nodup)))) := Lib.hid (by
          have := HS.out; rw [List.take_length] at this
          rw [HE2.out, this, Bool.true_and])
        obtain ⟨d0, d1, d2, d3, d4, d5, d6, _⟩ := cells7 (HF2.out.keep HX.out (by simp))
        have HRQ := Lib.hid (HR.out.keep0 HF2.out)
        go_wp2_with (go_at_call 61; refine (tx_mayCmps _ q.cmps _ HRQ.out.c (by have := H4.out; unfold many; omega)).mono ?_; rintro e w2 ⟨rfl, hf2⟩; refine go_stop ?_)
        unfold Stop
        have HF3 := Lib.hid (HF2.out.trans hf2 (by simp))
        have HX3 := Lib.hid (HF3.out.keep HX.out (by simp))
        obtain ⟨d0, d1, d2, d3, d4, d5, d6, _⟩ := cells7 HX3.out
        have HRQ3 := Lib.hid (HR.out.keep0 HF3.out)
        have HZ3 := Lib.hid (HF.out.trans HF3.out (by simp))
        clear hf2
        generalize q.cmps.all cm1 = b1 at HE3 ⊢
        cases b1
        · have HN : Hid (mayTB q = false) := Lib.hid (by rw [HE3.out]; rfl)
          go_wp2
          go_ret
          exact ⟨by rw [HN.out]; rfl, HZ3.out⟩
        · go_wp2_with (go_at_call 62; refine (tx_mayOps _ q.thn _ HRQ3.out.t (by have := H4.out; unfold many; omega)).mono ?_; rintro e w3 ⟨rfl, hf2⟩; refine go_stop ?_)
          unfold Stop
          have HF4 := Lib.hid (HF3.out.trans hf2 (by simp))
          have HX4 := Lib.hid (HF4.out.keep HX.out (by simp))
          obtain ⟨d0, d1, d2, d3, d4, d5, d6, _⟩ := cells7 HX4.out
          have HRQ4 := Lib.hid (HR.out.keep0 HF4.out)
          have HZ4 := Lib.hid (HF.out.trans HF4.out (by simp))
          clear hf2
          generalize (q.thn.all od1 && decide ((q.thn.map Od.key).Nodup)) = b2 at HE3 ⊢
          cases b2
          · have HN : Hid (mayTB q = false) := Lib.hid (by rw [HE3.out]; rfl)
            go_wp2
            go_ret
            exact ⟨by rw [HN.out]; rfl, HZ4.out⟩
          · go_wp2_with (go_at_call 62; refine (tx_mayOps _ q.els _ HRQ4.out.e (by have := H4.out; unfold many; omega)).mono ?_; rintro e w4 ⟨rfl, hf2⟩; refine go_stop ?_)
            unfold Stop
            have HZ5 := Lib.hid (HZ4.out.trans hf2 (by simp))
            clear hf2
            generalize (q.els.all od1 && decide ((q.els.map Od.key).Nodup)) = b3 at HE3 ⊢
            have HN : Hid (mayTB q = b3) := Lib.hid (by rw [HE3.out]; rfl)
            cases b3
            all_goals
              go_wp2
              go_ret
              exact ⟨by rw [HN.out]; rfl, HZ5.out⟩
  · have t1 : decide ((4 : Int) < (m : Int)) = true := by simp; omega
    have HN : Hid (mayTB q = false) := Lib.hid (by
      rw [HE.out]
      have : fourB q = false := by
        unfold fourB
        rw [Bool.eq_false_iff]
        intro hc
        simp only [Bool.and_eq_true, decide_eq_true_eq] at hc
        exact h4 (hm4.2 ⟨hc.1.1, hc.1.2, hc.2⟩)
      rw [this]; rfl)
    clear hm4 h4
    go_upto_region 1 with fail
    rw [← HWB.out]
    go_wp2_with fail
    go_ret
    exact ⟨by rw [HN.out]; rfl, HF.out⟩
end Go.Proofs.YtmipllkgioakoaaGreat
namespace Go.Proofs.YtmipllkgioakoaaGreat
open Go.RowKit
set_option linter.unusedVariables false
set_option linter.unusedSimpArgs false

set_option maxHeartbeats 1000000 in
theorem tx_may (q : Rq) (cv tv ev : Value) (w : World) (h : RqIn w q cv tv ev) : Calls Tryz.prog 23 #[.agg #[.int .i64 q.kind, .string q.f, .string q.t, .int .i64 q.rev, cv, tv, ev]] w fun e w' => e = .returned (.bool (mayQ q)) ∧ Fr [] w w' := by
  obtain ⟨s1, c1, rfl, la1, ma1⟩ := LIn.form h.c
  obtain ⟨s2, c2, rfl, la2, ma2⟩ := LIn.form h.t
  obtain ⟨s3, c3, rfl, la3, ma3⟩ := LIn.form h.e
  obtain ⟨wb, hwb⟩ : ∃ wb, wb = w.alloc (rqB q (.slice s1 q.cmps.length c1) (.slice s2 q.thn.length c2) (.slice s3 q.els.length c3)) := ⟨_, rfl⟩
  have HWB : Hid (wb = w.alloc (.cells #[.int .i64 q.kind, .string q.f, .string q.t, .int .i64 q.rev, .slice s1 q.cmps.length c1, .slice s2 q.thn.length c2, .slice s3 q.els.length c3] 35)) := Lib.hid hwb
  have HF : Hid (Fr [] w wb) := Lib.hid (by rw [hwb]; exact (Fr.refl [] w).alloc _)
  have HR := Lib.hid (h.keep0 HF.out)
  have HX : Hid (wb.heap[w.heap.size]? = some (.cells #[.int .i64 q.kind, .string q.f, .string q.t, .int .i64 q.rev, .slice s1 q.cmps.length c1, .slice s2 q.thn.length c2, .slice s3 q.els.length c3] 35 (0, 0))) := Lib.hid (by rw [hwb]; exact new_block w _)
  obtain ⟨d0, d1, d2, d3, d4, d5, d6, _⟩ := cells7 HX.out
  have HKD : Hid (∃ k, q.kind = k) := Lib.hid ⟨_, rfl⟩
  clear hwb h
  by_cases h1 : q.kind = 1
  · have HE : Hid (mayQ q = mayTB q) := Lib.hid (by unfold mayQ mayTB; rw [if_pos h1])
    have t1 : (q.kind == 1) = true := by simpa using h1
    clear h1
    go_enter Tryz.func23, Tryz.ntmps23
    go_upto_region 1 with fail
    rw [← HWB.out]
    go_wp2_with (go_at_call 43; refine (tx_mayTxn q _ _ _ _ HR.out).mono ?_; rintro e w1 ⟨rfl, hf⟩; refine go_stop ?_)
    unfold Stop
    have HZ := Lib.hid (HF.out.trans hf (by simp))
    clear hf
    go_wp2
    go_ret
    exact ⟨by rw [HE.out]; rfl, HZ.out⟩
  · have t1 : (q.kind == 1) = false := by simpa using h1
    by_cases h2 : q.kind = 2
    · have HE : Hid (mayQ q = (mayRangeB q.f.toList q.t.toList && decide (0 ≤ q.rev))) := Lib.hid (by unfold mayQ; rw [if_neg h1, if_pos h2])
      have t2 : (q.kind == 2) = true := by simpa using h2
      clear h1 h2
      go_enter Tryz.func23, Tryz.ntmps23
      go_upto_region 1 with fail
      rw [← HWB.out]
      go_wp2_with (go_at_call 44; refine (key_mayrange q.f q.t _ HR.out.wf.1 HR.out.wf.2).mono ?_; rintro e w1 ⟨rfl, hf⟩; refine go_stop ?_)
      unfold Stop
      have HZ := Lib.hid (HF.out.trans hf (by simp))
      obtain ⟨_, _, _, d3, _⟩ := cells7 (hf.keep HX.out (by simp))
      clear hf
      cases hb : mayRangeB q.f.toList q.t.toList
      · have HEN : Hid (mayQ q = false) := Lib.hid (by rw [HE.out, hb]; rfl)
        clear hb
        go_wp2
        go_ret
        exact ⟨by rw [HEN.out]; rfl, HZ.out⟩
      · have HEN : Hid (mayQ q = decide (0 ≤ q.rev)) := Lib.hid (by rw [HE.out, hb]; rfl)
        clear hb
        go_wp2
        go_ret
        exact ⟨by rw [HEN.out]; rfl, HZ.out⟩
    · have t2 : (q.kind == 2) = false := by simpa using h2
      by_cases h3 : q.kind = 3
      · have HE : Hid (mayQ q = decide (0 ≤ q.rev)) := Lib.hid (by unfold mayQ; rw [if_neg h1, if_neg h2, if_pos h3])
        have t3 : (q.kind == 3) = true := by simpa using h3
        clear h1 h2 h3
        go_enter Tryz.func23, Tryz.ntmps23
        go_upto_region 1 with fail
        rw [← HWB.out]
        go_wp2
        go_ret
        exact ⟨by rw [HE.out]; rfl, HF.out⟩
      · have HE : Hid (mayQ q = false) := Lib.hid (by unfold mayQ; rw [if_neg h1, if_neg h2, if_neg h3])
        have t3 : (q.kind == 3) = false := by simpa using h3
        clear h1 h2 h3
        go_enter Tryz.func23, Tryz.ntmps23
        go_upto_region 1 with fail
        rw [← HWB.out]
        go_wp2
        go_ret
        exact ⟨by rw [HE.out]; rfl, HF.out⟩
set_option maxHeartbeats 1000000 in
theorem txn_may (q : Rq) (cv tv ev : Value) (w : World) (h : RqIn w q cv tv ev) : Calls Tryz.prog 8 #[.agg #[.int .i64 q.kind, .string q.f, .string q.t, .int .i64 q.rev, cv, tv, ev]] w fun e w' => e = .returned (.int .i64 (mayE q)) ∧ Fr [] w w' := by
  obtain ⟨s1, c1, rfl, la1, ma1⟩ := LIn.form h.c
  obtain ⟨s2, c2, rfl, la2, ma2⟩ := LIn.form h.t
  obtain ⟨s3, c3, rfl, la3, ma3⟩ := LIn.form h.e
  have HF : Hid (Fr [] w (w.alloc (.cells #[.int .i64 q.kind, .string q.f, .string q.t, .int .i64 q.rev, .slice s1 q.cmps.length c1, .slice s2 q.thn.length c2, .slice s3 q.els.length c3] 35))) := Lib.hid ((Fr.refl [] w).alloc _)
  have HR := Lib.hid (h.keep0 HF.out)
  clear h
  go_enter Tryz.func8, Tryz.ntmps8
  go_wp2_with (go_at_call 23; refine (tx_may q _ _ _ _ HR.out).mono ?_; rintro e w1 ⟨rfl, hf⟩; refine go_stop ?_)
  unfold Stop
  have HZ := Lib.hid (HF.out.trans hf (by simp))
  clear hf
  cases hb : mayQ q
  all_goals
    have HE : Hid (mayE q = _) := Lib.hid (by unfold mayE; rw [hb])
    clear hb
    go_wp2
    go_ret
    exact ⟨by rw [HE.out]; rfl, HZ.out⟩
theorem txn_keys (q : Rq) (cv tv ev : Value) (w : World) (h : RqIn w q cv tv ev) (b0 : q.cmps.length ≤ 20) (b1 : q.thn.length ≤ 20) (b2 : q.els.length ≤ 20) : Calls Tryz.prog 59 #[.agg #[.int .i64 q.kind, .string q.f, .string q.t, .int .i64 q.rev, cv, tv, ev]] w fun e w' =>
    ∃ v ks, e = .returned v ∧ StIn w' v ks ∧ KeysOk q ks ∧ ks.length ≤ 60 ∧ Fr [] w w' := by
  refine (txn_keysG q cv tv ev w h b0 b1 b2).mono ?_
  rintro e w' ⟨v, ks, rfl, h1, h2, h3⟩
  refine ⟨v, ks, rfl, h1, ⟨h2.rise, h2.mem⟩, ?_, h3⟩
  have := h2.le
  unfold keysL at this
  simp at this; omega
set_option maxHeartbeats 1000000 in
theorem txn_plan (mv : Value) (m : List Kv) (q : Rq) (cv tv ev : Value) (w : World) (hm : KvIn w mv m) (hs : Srt Kv.key m) (h : RqIn w q cv tv ev) (bm : m.length ≤ many) (b0 : q.cmps.length ≤ many) (b1 : q.thn.length ≤ many) (b2 : q.els.length ≤ many) :
    Calls Tryz.prog 47 #[mv, .agg #[.int .i64 q.kind, .string q.f, .string q.t, .int .i64 q.rev, cv, tv, ev]] w fun e w' =>
      ∃ v, e = .returned (.tuple #[.bool (holdsC m q.cmps), v]) ∧ OdIn w' v (planL m q) ∧ (∀ S : List Nat, (∀ k ∈ S, k < w.heap.size) → LFar S Od.cells 3 w tv q.thn → LFar S Od.cells 3 w ev q.els → LFar S Od.cells 3 w' v (planL m q)) ∧ Fr [] w w' := by
  obtain ⟨s0, c0, rfl, la0, ma0⟩ := LIn.form hm
  obtain ⟨s1, c1, rfl, la1, ma1⟩ := LIn.form h.c
  obtain ⟨s2, c2, rfl, la2, ma2⟩ := LIn.form h.t
  obtain ⟨s3, c3, rfl, la3, ma3⟩ := LIn.form h.e
  obtain ⟨wb, hwb⟩ : ∃ wb, wb = w.alloc (rqB q (.slice s1 q.cmps.length c1) (.slice s2 q.thn.length c2) (.slice s3 q.els.length c3)) := ⟨_, rfl⟩
  have HWB : Hid (wb = w.alloc (.cells #[.int .i64 q.kind, .string q.f, .string q.t, .int .i64 q.rev, .slice s1 q.cmps.length c1, .slice s2 q.thn.length c2, .slice s3 q.els.length c3] 35)) := Lib.hid hwb
  have HF : Hid (Fr [] w wb) := Lib.hid (by rw [hwb]; exact (Fr.refl [] w).alloc _)
  have HR := Lib.hid (h.keep0 HF.out)
  have HC := Lib.hid (tx_byKey _ m wb (LIn.keep0 hm HF.out) hs bm)
  have HX : Hid (wb.heap[w.heap.size]? = some (.cells #[.int .i64 q.kind, .string q.f, .string q.t, .int .i64 q.rev, .slice s1 q.cmps.length c1, .slice s2 q.thn.length c2, .slice s3 q.els.length c3] 35 (0, 0))) := Lib.hid (by rw [hwb]; exact new_block w _)
  have HB := Lib.hid (show q.cmps.length ≤ many ∧ q.thn.length ≤ many ∧ q.els.length ≤ many from ⟨b0, b1, b2⟩)
  clear hwb h hm hs bm b0 b1 b2
  go_enter Tryz.func47, Tryz.ntmps47
  go_upto_region 1 with fail
  rw [← HWB.out]
  go_wp2_with (go_at_call 66; refine HC.out.mono ?_; rintro e w1 ⟨b, rfl, h1, h2, hf⟩; refine go_stop ?_)
  unfold Stop
  have HM := Lib.hid h1
  have HF1 := Lib.hid hf
  have HR1 := Lib.hid (HR.out.keep0 hf)
  have HX1 := Lib.hid (hf.keep HX.out (by simp))
  obtain ⟨d0, d1, d2, d3, d4, d5, d6, _⟩ := cells7 HX1.out
  clear h1 h2 hf
  go_wp2_with (go_at_call 67; refine (tx_allHold b _ m _ q.cmps _ HM.out HR1.out.c HB.out.1).mono ?_; rintro e w2 ⟨rfl, hf⟩; refine go_stop ?_)
  unfold Stop
  have HF2 := Lib.hid (HF1.out.trans hf (by simp))
  have HM2 := Lib.hid (HM.out.keep hf (by simp))
  have HR2 := Lib.hid (HR1.out.keep0 hf)
  have HX2 := Lib.hid (hf.keep HX1.out (by simp))
  obtain ⟨d0, d1, d2, d3, d4, d5, d6, _⟩ := cells7 HX2.out
  clear hf
  cases hb : holdsC m q.cmps
  · have HP : Hid (planL m q = q.els.filter (keepO m)) := Lib.hid (by unfold planL; rw [hb]; rfl)
    have HB2 := Lib.hid hb
    clear hb
    go_wp2_with (go_at_call 68; refine (tx_changing b _ m _ q.els _ HM2.out HR2.out.e HB.out.2.2).mono ?_; rintro e w3 ⟨v3, rfl, ho, hf⟩; refine go_stop ?_)
    unfold Stop
    have HO := Lib.hid ho
    have HZ := Lib.hid (HF.out.trans (HF2.out.trans hf (by simp)) (by simp))
    have hsz := HF.out.size
    have hsz2 := HF2.out.size
    clear ho hf
    go_wp2
    refine bodyPost_ret (v := .tuple #[.bool false, v3]) (by simp [results, Tryz.results47, go_sem]) rfl ?_
    refine ⟨_, by rw [HB2.out], by rw [HP.out]; exact LAt.read HO.out.lies Od.clen, fun S hS _ _ => ?_, HZ.out⟩
    rw [HP.out]
    exact LFar.of_new (w := w) (LAt.read HO.out.lies Od.clen) (fun k hk => by have := HO.out.new k hk; omega) hS
  · have HP : Hid (planL m q = q.thn.filter (keepO m)) := Lib.hid (by unfold planL; rw [hb]; rfl)
    have HB2 := Lib.hid hb
    clear hb
    go_wp2_with (go_at_call 68; refine (tx_changing b _ m _ q.thn _ HM2.out HR2.out.t HB.out.2.1).mono ?_; rintro e w3 ⟨v3, rfl, ho, hf⟩; refine go_stop ?_)
    unfold Stop
    have HO := Lib.hid ho
    have HZ := Lib.hid (HF.out.trans (HF2.out.trans hf (by simp)) (by simp))
    have hsz := HF.out.size
    have hsz2 := HF2.out.size
    clear ho hf
    go_wp2
    refine bodyPost_ret (v := .tuple #[.bool true, v3]) (by simp [results, Tryz.results47, go_sem]) rfl ?_
    refine ⟨_, by rw [HB2.out], by rw [HP.out]; exact LAt.read HO.out.lies Od.clen, fun S hS _ _ => ?_, HZ.out⟩
    rw [HP.out]
    exact LFar.of_new (w := w) (LAt.read HO.out.lies Od.clen) (fun k hk => by have := HO.out.new k hk; omega) hS
/-- a request's slices are new -/
def NewV (w : World) (cv tv ev : Value) : Prop := ∀ v k, v = cv ∨ v = tv ∨ v = ev → v.ownBlock = some k → w.heap.size ≤ k
theorem one_row {α : Type} {cs : α → List Value} {sz : Nat} {e : TypeId} (w : World) (x : α) (hc : ∀ x, (cs x).length = sz) (B : Nat) (hB : w.heap.size = B) (o : Obj) (ho : o = .cells (cs x).toArray e) : LIn cs sz (w.alloc o) (.slice (some ⟨B, 0, none⟩) 1 1) [x] := by
  subst ho
  have h := lies_row w e (cs x) (hc x) B hB
  refine LAt.read (e := e) ?_ hc
  unfold LAt
  rw [allC_one]; exact h
theorem nil_wf : (⟨#[]⟩ : ByteArray).size ≤ maxLen := by decide
set_option maxHeartbeats 1000000 in
theorem txn_putP (k v : ByteArray) (wf : k.size ≤ maxLen ∧ v.size ≤ maxLen) (w : World) : Calls Tryz.prog 22 #[.string k, .string v] w fun e w' =>
    ∃ s c, e = .returned (.agg #[.int .i64 1, .string ⟨#[]⟩, .string ⟨#[]⟩, .int .i64 0, .slice none 0 0, .slice s 1 c, .slice none 0 0]) ∧ OdIn w' (.slice s 1 c) [(⟨k, v, false, wf⟩ : Od)] ∧ (∀ j, (Value.slice s 1 c).ownBlock = some j → w.heap.size ≤ j) ∧ Fr [] w w' := by
  go_enter Tryz.func22, Tryz.ntmps22
  go_wp2
  refine bodyPost_ret (v := .agg #[.int .i64 1, .string ⟨#[]⟩, .string ⟨#[]⟩, .int .i64 0, .slice none 0 0, .slice (some ⟨w.heap.size + 1, 0, none⟩) 1 1, .slice none 0 0]) (by simp [results, Tryz.results22, go_sem]) rfl ?_
  refine ⟨_, _, rfl, one_row _ (⟨k, v, false, wf⟩ : Od) Od.clen _ (by simp) _ rfl, fun j hj => ?_, ((Fr.refl [] w).alloc _).alloc _⟩
  simp [Value.ownBlock] at hj
  omega
theorem txn_putN (k v : ByteArray) (wf : k.size ≤ maxLen ∧ v.size ≤ maxLen) (w : World) : Calls Tryz.prog 22 #[.string k, .string v] w fun e w' =>
    ∃ cv tv ev, e = .returned (rqA (putQ k v wf) cv tv ev) ∧ RqIn w' (putQ k v wf) cv tv ev ∧ NewV w cv tv ev ∧ Fr [] w w' := by
  refine (txn_putP k v wf w).mono ?_
  rintro e w' ⟨s, c, rfl, h1, h2, h3⟩
  refine ⟨_, _, _, rfl, ⟨LIn.nil _, h1, LIn.nil _, nil_wf, nil_wf⟩, ?_, h3⟩
  rintro u j (rfl | rfl | rfl) hj
  · simp [Value.ownBlock] at hj
  · exact h2 j hj
  · simp [Value.ownBlock] at hj
theorem txn_put (k v : ByteArray) (wf : k.size ≤ maxLen ∧ v.size ≤ maxLen) (w : World) : Calls Tryz.prog 22 #[.string k, .string v] w fun e w' =>
    ∃ cv tv ev, e = .returned (rqA (putQ k v wf) cv tv ev) ∧ RqIn w' (putQ k v wf) cv tv ev ∧ Fr [] w w' := by
  refine (txn_putN k v wf w).mono ?_
  rintro e w' ⟨cv, tv, ev, rfl, h1, _, h2⟩
  exact ⟨cv, tv, ev, rfl, h1, h2⟩
end Go.Proofs.YtmipllkgioakoaaGreat
