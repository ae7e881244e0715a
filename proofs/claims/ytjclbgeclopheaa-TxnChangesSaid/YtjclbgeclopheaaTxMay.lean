/- PACKAGE txn: mayCmps, mayOps: contracts (written by gen_txmay.py) -/
import Derived.Test.YtjclbgeclopheaaTxGat
import Derived.Test.YtjclbgeclopheaaTxPlan
namespace Go.Proofs.Ytjclbgeclopheaa
open Go.RowKit
set_option linter.unusedVariables false
set_option linter.unusedSimpArgs false

def cm1 (c : Cm) : Bool := decide (c.kind = 1 ∨ c.kind = 2) && decide (c.val.size ≤ 8) && decide (0 ≤ c.rev)
def od1 (o : Od) : Bool := decide (o.val.size ≤ 8) && !(o.del && decide (0 < o.val.size))
theorem odall_take {p : Od → Bool} {l : List Od} {j : Nat} {x : Od} (hx : l[j]? = some x) : (l.take (j + 1)).all p = ((l.take j).all p && p x) := by
  rw [List.take_add_one, hx, List.all_append]; simp
theorem odall_no {p : Od → Bool} {l : List Od} {j : Nat} {x : Od} (hx : l[j]? = some x) (h : p x = false) : l.all p = false := by
  rw [List.all_eq_false]
  exact ⟨x, List.mem_of_getElem? hx, by simp [h]⟩
set_option maxHeartbeats 1000000 in
set_option maxRecDepth 100000 in
theorem tx_mayCmps (lv : Value) (l : List Cm) (w : World) (hl : CmIn w lv l) (bl : l.length ≤ many) : Calls Try.prog 55 #[lv] w fun e w' => e = .returned (.bool (l.all cm1)) ∧ Fr [] w w' := by
  unfold many at bl
  obtain ⟨s1, c1, rfl, la, ma⟩ := LIn.form hl
  unfold maxLen at ma
  have HL := Lib.hid hl
  clear hl
  go_enter Try.func55, Try.ntmps55
  go_wp2_with fail
  go_loopw [7] (fun i wr => ∃ (j : Nat), i = .int .i64 j ∧ j ≤ l.length ∧ (l.take j).all cm1 = true ∧ Fr [] w wr) (fun i _ => l.length - (intOf i).toNat)
  case atStart => exact ⟨0, rfl, Nat.zero_le _, by simp, Fr.refl _ _⟩
  case round =>
    obtain ⟨j, rfl, hj, hs, hf⟩ := hrel
    have HS := Lib.hid hs
    have HF := Lib.hid hf
    clear hs hf
    by_cases h : j < l.length
    · obtain ⟨x, hx⟩ : ∃ x, l[j]? = some x := ⟨_, List.getElem?_eq_getElem h⟩
      obtain ⟨g, off, d1, e1, _, l1, k1⟩ := CmIn.here (LIn.keep0 HL.out HF.out) (by omega)
      simp only [Value.slice.injEq] at e1
      obtain ⟨rfl, _, rfl⟩ := e1
      obtain ⟨p0, p1, p2, p3⟩ := k1 j x hx
      have HX := Lib.hid hx
      have t1 : decide (j < l.length) = true := by simpa using h
      obtain ⟨kd, hkd⟩ : ∃ k, x.kind = k := ⟨_, rfl⟩
      have hv := x.wf.2
      rw [hkd] at p0
      have HKD := Lib.hid hkd
      have HF2 := Lib.hid (HF.out.alloc (.cells #[.int .i64 kd, .string x.key, .string x.val, .int .i64 x.rev] 61))
      clear hx k1 hkd
      unfold maxLen at hv
      by_cases hk : kd = 1 ∨ kd = 2
      · by_cases hv8 : x.val.size ≤ 8
        · have t2 : decide ((8 : Int) < (x.val.size : Int)) = false := by simp; omega
          by_cases hr : 0 ≤ x.rev
          · have t3 : decide (x.rev < 0) = false := by simp; omega
            have HT : Hid ((l.take (j + 1)).all cm1 = true) := Lib.hid (by rw [all_take HX.out, HS.out]; simp only [cm1, Bool.true_and, Bool.and_eq_true, decide_eq_true_eq]; exact ⟨⟨by rw [HKD.out]; exact hk, hv8⟩, hr⟩)
            rcases hk with rfl | rfl
            all_goals
              go_wp2_with fail
              go_roundw
              case rel => exact ⟨j + 1, by go_num, by omega, HT.out, HF2.out⟩
              case measure => simp [intOf]; omega
          · have t3 : decide (x.rev < 0) = true := by simp; omega
            have HR : Hid (l.all cm1 = false) := Lib.hid (all_no HX.out (by simp [cm1, hr]))
            clear hr
            rcases hk with rfl | rfl
            all_goals
              go_wp2
              go_ret
              exact ⟨by rw [HR.out]; rfl, HF2.out⟩
        · have t2 : decide ((8 : Int) < (x.val.size : Int)) = true := by simp; omega
          have HR : Hid (l.all cm1 = false) := Lib.hid (all_no HX.out (by simp [cm1, hv8]))
          clear hv8
          rcases hk with rfl | rfl
          all_goals
            go_wp2
            go_ret
            exact ⟨by rw [HR.out]; rfl, HF2.out⟩
      · have n1 : ¬ kd = 1 := fun e => hk (Or.inl e)
        have n2 : ¬ kd = 2 := fun e => hk (Or.inr e)
        have HR : Hid (l.all cm1 = false) := Lib.hid (all_no HX.out (by simp only [cm1, HKD.out, hk]; simp))
        clear hk
        go_wp2
        go_ret
        exact ⟨by rw [HR.out]; rfl, HF2.out⟩
    · have t1 : decide (j < l.length) = false := by simpa using h
      have hj2 : j = l.length := by omega
      subst hj2
      have HR : Hid (l.all cm1 = true) := Lib.hid (by have := HS.out; rw [List.take_length] at this; exact this)
      go_wp2
      go_ret
      exact ⟨by rw [HR.out]; rfl, HF.out⟩
theorem rows_one (w : World) (v : Value) (l : List ByteArray) (h : StIn w v l) : Rows (w.alloc (.cells #[v] 32)) (.slice (some ⟨w.heap.size, 0, none⟩) 1 1) [(v, l)] := by
  refine ⟨⟨some ⟨w.heap.size, 0, none⟩, 1, rfl, Nat.le_refl _, by unfold maxLen; omega, fun _ => ⟨w.heap.size, 0, rfl, by simp, fun i x hx j hj => ?_⟩⟩, fun x hx => ?_⟩
  · have hi : i = 0 := by have := (List.getElem?_eq_some_iff.1 hx).1; simp at this; omega
    subst hi
    obtain rfl : j = 0 := by omega
    simp at hx
    subst hx
    rw [cell_block (new_block w _)]
    rfl
  · simp at hx
    subst hx
    exact LIn.keep0 h ((Fr.refl [] w).alloc _)
set_option maxHeartbeats 1000000 in
set_option maxRecDepth 100000 in
theorem tx_mayOps (lv : Value) (l : List Od) (w : World) (hl : OdIn w lv l) (bl : l.length ≤ many) : Calls Try.prog 56 #[lv] w fun e w' => e = .returned (.bool (l.all od1 && decide ((l.map Od.key).Nodup))) ∧ Fr [] w w' := by
  unfold many at bl
  obtain ⟨s1, c1, rfl, la, ma⟩ := LIn.form hl
  unfold maxLen at ma
  have HL := Lib.hid hl
  clear hl
  go_enter Try.func56, Try.ntmps56
  go_wp2_with fail
  go_loopw [7] (fun i wr => ∃ (j : Nat), i = .int .i64 j ∧ j ≤ l.length ∧ (l.take j).all od1 = true ∧ Fr [] w wr) (fun i _ => l.length - (intOf i).toNat)
  case atStart => exact ⟨0, rfl, Nat.zero_le _, by simp, Fr.refl _ _⟩
  case round =>
    obtain ⟨j, rfl, hj, hs, hf⟩ := hrel
    have HS := Lib.hid hs
    have HF := Lib.hid hf
    clear hs hf
    by_cases h : j < l.length
    · obtain ⟨x, hx⟩ : ∃ x, l[j]? = some x := ⟨_, List.getElem?_eq_getElem h⟩
      obtain ⟨g, off, d1, e1, _, l1, k1⟩ := OdIn.here (LIn.keep0 HL.out HF.out) (by omega)
      simp only [Value.slice.injEq] at e1
      obtain ⟨rfl, _, rfl⟩ := e1
      obtain ⟨p0, p1, p2⟩ := k1 j x hx
      have HX := Lib.hid hx
      have t1 : decide (j < l.length) = true := by simpa using h
      obtain ⟨dd, hdd⟩ : ∃ k, x.del = k := ⟨_, rfl⟩
      have hv := x.wf.2
      rw [hdd] at p2
      have HDD := Lib.hid hdd
      have HF2 := Lib.hid (HF.out.alloc (.cells #[.string x.key, .string x.val, .bool dd] 52))
      clear hx k1 hdd
      unfold maxLen at hv
      by_cases hv8 : x.val.size ≤ 8
      · have t2 : decide ((8 : Int) < (x.val.size : Int)) = false := by simp; omega
        cases dd
        · have HT : Hid ((l.take (j + 1)).all od1 = true) := Lib.hid (by rw [odall_take HX.out, HS.out]; simp [od1, HDD.out, hv8])
          go_wp2_with fail
          go_roundw
          case rel => exact ⟨j + 1, by go_num, by omega, HT.out, HF2.out⟩
          case measure => simp [intOf]; omega
        · by_cases hv0 : x.val = ⟨#[]⟩
          · have HT : Hid ((l.take (j + 1)).all od1 = true) := Lib.hid (by
              rw [odall_take HX.out, HS.out]
              have : x.val.size = 0 := by rw [hv0]; rfl
              simp [od1, HDD.out, this])
            rw [hv0] at p1 t2 HF2
            clear hv0 hv8 hv
            go_wp2_with fail
            go_roundw
            case rel => exact ⟨j + 1, by go_num, by omega, HT.out, HF2.out⟩
            case measure => simp [intOf]; omega
          · have hpos : 0 < x.val.size := by
              rcases Nat.eq_zero_or_pos x.val.size with h0 | h0
              · exact absurd (bs_inj (by rw [ByteArray.toList_eq, ByteArray.toList_eq]; exact List.eq_nil_of_length_eq_zero (by simpa using h0))) hv0
              · exact h0
            have t3 : (x.val.toList == ([] : List UInt8)) = false := by
              rw [beq_eq_false_iff_ne]; intro e; exact hv0 (bs_inj (by rw [e]; simp [ByteArray.toList_eq]))
            have HR : Hid (l.all od1 = false) := Lib.hid (odall_no HX.out (by simp [od1, HDD.out, hpos]))
            have HRR : Hid ((l.all od1 && decide ((l.map Od.key).Nodup)) = false) := Lib.hid (by rw [HR.out]; rfl)
            clear hv0 hpos
            go_wp2
            go_ret
            exact ⟨by rw [HRR.out]; rfl, HF2.out⟩
      · have t2 : decide ((8 : Int) < (x.val.size : Int)) = true := by simp; omega
        have HR : Hid (l.all od1 = false) := Lib.hid (odall_no HX.out (by simp [od1, hv8]))
        have HRR : Hid ((l.all od1 && decide ((l.map Od.key).Nodup)) = false) := Lib.hid (by rw [HR.out]; rfl)
        clear hv8
        go_wp2
        go_ret
        exact ⟨by rw [HRR.out]; rfl, HF2.out⟩
    · have t1 : decide (j < l.length) = false := by simpa using h
      have hj2 : j = l.length := by omega
      subst hj2
      have HR : Hid (l.all od1 = true) := Lib.hid (by have := HS.out; rw [List.take_length] at this; exact this)
      go_wp2_with (go_at_call 27; refine (tx_changed _ l _ (LIn.keep0 HL.out HF.out) (by unfold many; omega)).mono ?_; rintro e w1 ⟨v1, rfl, ho, hf1⟩; refine go_stop ?_)
      unfold Stop
      obtain ⟨s2, c2, rfl⟩ : ∃ s c, v1 = .slice s l.length c := by obtain ⟨s, c, h, _⟩ := ho.lies.form; rw [List.length_map] at h; exact ⟨s, c, h⟩
      have HF1 := Lib.hid (HF.out.trans hf1 (by simp))
      have HROW := Lib.hid (rows_one _ _ _ (LAt.read ho.lies stC_len))
      clear ho hf1
      go_wp2_with (go_at_call 25; refine (tx_gather _ [(.slice s2 l.length c2, l.map Od.key)] _ HROW.out (by unfold many; simp) (by unfold many; simp [total]; omega)).mono ?_; rintro e w2 ⟨v2, ks, rfl, h2, h3, h4⟩; refine go_stop ?_)
      unfold Stop
      obtain ⟨s3, c3, rfl, la3, ma3⟩ := LIn.form h2
      have h3' : Gath (l.map Od.key) ks := by simpa using h3
      have hle := h3'.le
      rw [List.length_map] at hle
      have HG : Hid ((l.all od1 && decide ((l.map Od.key).Nodup)) = decide (ks.length = l.length)) := Lib.hid (by rw [HR.out, ← h3'.len, List.length_map]; rfl)
      have HF3 := Lib.hid ((HF1.out.alloc _).trans h4 (by simp))
      clear h2 h3 h3' h4
      unfold maxLen at ma3
      go_wp2
      go_ret
      have hbe : ((ks.length : Int) == (l.length : Int)) = decide (ks.length = l.length) := by rw [Bool.eq_iff_iff]; simp; omega
      exact ⟨by rw [HG.out, ← hbe]; rfl, HF3.out⟩
end Go.Proofs.Ytjclbgeclopheaa
