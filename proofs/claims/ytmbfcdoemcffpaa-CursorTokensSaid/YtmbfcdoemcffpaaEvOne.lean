/- THE DOCUMENT's MAP BEHIND ONE EVENT, AND BEHIND MANY (impostref05.One, Fold): contracts -/
import Derived.Test.YtmbfcdoemcffpaaEvSel
import Derived.Deep.DeepCutAuto
namespace Go.Proofs.Ytmbfcdoemcffpaa
open Go.RowKit
set_option linter.unusedVariables false
set_option linter.unusedSimpArgs false

theorem take_snoc {α : Type} {m : List α} {j : Nat} {x : α} (hx : m[j]? = some x) : m.take (j + 1) = m.take j ++ [x] := by
  obtain ⟨hj, rfl⟩ := List.getElem?_eq_some_iff.1 hx
  rw [List.take_add_one, List.getElem?_eq_getElem hj]; rfl
section
variable {α : Type} {key : α → ByteArray}
/-- how far the keys below k reach, so far -/
structure LowTo (key : α → ByteArray) (k : ByteArray) (m : List α) (j : Nat) : Prop where
  low : m.take j ++ lowB key k (m.drop j) = lowB key k m
  high : highB key k (m.drop j) = highB key k m
theorem LowTo.zero (k : ByteArray) (m : List α) : LowTo key k m 0 := ⟨by simp, by simp⟩
theorem LowTo.step {k : ByteArray} {m : List α} {j : Nat} {x : α} (h : LowTo key k m j) (hx : m[j]? = some x) (hk : kl (key x) k = true) : LowTo key k m (j + 1) := by
  obtain ⟨h1, h2⟩ := h
  have hs := take_snoc hx
  obtain ⟨hj, rfl⟩ := List.getElem?_eq_some_iff.1 hx
  rw [List.drop_eq_getElem_cons hj] at h1 h2
  simp only [lowB, highB] at h1 h2 ⊢
  rw [List.takeWhile_cons, if_pos hk] at h1
  rw [List.dropWhile_cons, if_pos hk] at h2
  refine ⟨?_, h2⟩
  rw [hs, List.append_assoc]
  exact h1
theorem LowTo.stop {k : ByteArray} {m : List α} {j : Nat} {x : α} (h : LowTo key k m j) (hx : m[j]? = some x) (hk : kl (key x) k = false) : m.take j = lowB key k m ∧ m.drop j = highB key k m := by
  obtain ⟨h1, h2⟩ := h
  obtain ⟨hj, rfl⟩ := List.getElem?_eq_some_iff.1 hx
  have hd := List.drop_eq_getElem_cons hj
  rw [hd] at h1 h2
  simp only [lowB, highB] at h1 h2 ⊢
  rw [List.takeWhile_cons, if_neg (by simp [hk]), List.append_nil] at h1
  rw [List.dropWhile_cons, if_neg (by simp [hk])] at h2
  exact ⟨h1, hd.trans h2⟩
theorem LowTo.all {k : ByteArray} {m : List α} {j : Nat} (h : LowTo key k m j) (hj : m.length ≤ j) : m.take j = lowB key k m ∧ m.drop j = highB key k m := by
  obtain ⟨h1, h2⟩ := h
  have hd : m.drop j = [] := List.drop_of_length_le hj
  rw [hd] at h1 h2
  exact ⟨by simpa [lowB] using h1, hd.trans (by simpa [highB] using h2)⟩
end

set_option maxHeartbeats 4000000 in
theorem rone_kv_new (mv : Value) (m : List Kv) (ev : Ev) (w : World) (hl : KvIn w mv m) (hm : m.length ≤ many + many) : Calls Try.prog 48 #[mv, ev.agg] w fun e w' => ∃ v, e = .returned v ∧ KvAt w' v (oneK m ev) ∧ Fr [] w w' ∧ ∀ k, v.ownBlock = some k → w.heap.size ≤ k := by
  unfold many at hm
  have q1 := @run_lss Try.prog
  obtain ⟨s1, c1, rfl, la, ma⟩ := hl.form
  unfold maxLen at ma
  obtain ⟨wb, hwb⟩ : ∃ wb, wb = w.alloc (Obj.cells #[.int .i64 ev.rev, .string ev.key, .string ev.val, .bool ev.del] 67) := ⟨_, rfl⟩
  have HWB := Lib.hid hwb
  have HL : Hid (KvIn wb (.slice s1 m.length c1) m) := Lib.hid (by rw [hwb]; exact hl.keep0 ((Fr.refl [] w).alloc _))
  have HX : Hid (wb.heap[w.heap.size]? = some (.cells #[.int .i64 ev.rev, .string ev.key, .string ev.val, .bool ev.del] 67 (0, 0))) := Lib.hid (by rw [hwb]; exact new_block w _)
  clear hl hwb
  unfold Ev.agg
  go_enter Try.func48, Try.ntmps48
  go_wp2_with fail
  rw [← HWB.out]
  go_loopw [5, 6] (fun v i wr => ∃ (j : Nat), i = .int .i64 j ∧ j ≤ m.length ∧ OutAt Kv.cells 101 3 wb wr v (m.take j) ∧ LowTo Kv.key ev.key m j ∧ Fr [] wb wr) (fun _ i _ => m.length - (intOf i).toNat)
  case atStart => exact ⟨0, rfl, Nat.zero_le _, OutAt.nil _ _, LowTo.zero _ _, Fr.refl _ _⟩
  case round =>
    obtain ⟨j, rfl, hj, ho, hs, hf⟩ := hrel
    have HO := Lib.hid ho
    have HS := Lib.hid hs
    have HF := Lib.hid hf
    clear ho hs hf
    obtain ⟨b0, b1, b2, b3, _⟩ := cells4 (HF.out.keep HX.out (by simp))
    by_cases hgo : ∃ x, m[j]? = some x ∧ kl x.key ev.key = true
    · obtain ⟨x, hx, hk⟩ := hgo
      have h : j < m.length := (List.getElem?_eq_some_iff.1 hx).1
      obtain ⟨g, off, d1, e1, _, l1, k1⟩ := KvIn.here (LIn.keep0 HL.out HF.out) (by omega)
      simp only [Value.slice.injEq] at e1
      obtain ⟨rfl, _, rfl⟩ := e1
      have HP := Lib.hid (k1 j x hx)
      obtain ⟨p0, p1, p2⟩ := HP.out
      have HXX := Lib.hid hx
      have HK := Lib.hid hk
      have t1 : decide (j < m.length) = true := by simpa using h
      have hk2 : Op.bytesLess x.key.toList ev.key.toList = true := hk
      clear hx k1 hk
      go_wp2_with fail
      go_quiet (fail)
      have hol : (m.take j).length = j := by rw [List.length_take]; omega
      have HON := Lib.hid (HO.out.keep ((Fr.refl [] wr).drewN nq))
      have HN := Lib.hid (HF.out.drewN nq)
      clear b0 b1 b2 b3 hk2
      go_wp2_with (at_builtin; refine wpList_append_any rfl (.tmp 22) (.tmp 27) 56 101 (.agg #[.string ⟨#[]⟩, .string ⟨#[]⟩, .int .i64 0]) 3 40 rfl kv_slice kv_info rfl (by decide) _ (m.take j).length (allC Kv.cells (m.take j)) rfl (HON.out.lies.keep0 ((Fr.refl [] _).alloc _)) _ 1 x.cells rfl (lies_row (wr.drewN nq) 101 x.cells rfl _ rfl) x.cone (by unfold maxLen; omega) (by omega) ?app)
      case app =>
      intro v' w' h1 h2 h3
      have ha := (HON.out.keep ((Fr.refl [] (wr.drewN nq)).alloc (.cells x.cells.toArray 101)))
      have HA := Lib.hid (OutAt.app ha (by have := HN.out.size; simp at this ⊢; omega) (xs := [x]) (by rw [allC_one, hol]; exact h1) rfl h3)
      have HG := Lib.hid (OutAt.fr ha (HN.out.alloc _) h2)
      clear h1 h2 h3 ha
      go_wp2_with fail
      go_roundw
      case rel =>
        refine ⟨j + 1, by go_num, by omega, ?_, HS.out.step HXX.out HK.out, HG.out⟩
        rw [take_snoc HXX.out]
        exact HA.out
      case measure => simp [intOf]; omega
    · have hol : (m.take j).length = j := by rw [List.length_take]; omega
      have HTD : Hid (m.take j = lowB Kv.key ev.key m ∧ m.drop j = highB Kv.key ev.key m) := by
        by_cases h : j < m.length
        · refine Lib.hid (HS.out.stop (List.getElem?_eq_getElem h) ?_)
          cases hk : kl (m[j]).key ev.key with
          | false => rfl
          | true => exact absurd ⟨_, List.getElem?_eq_getElem h, hk⟩ hgo
        · exact Lib.hid (HS.out.all (by omega))
      by_cases h : j < m.length
      focus
          (obtain ⟨x, hx⟩ : ∃ x, m[j]? = some x := ⟨_, List.getElem?_eq_getElem h⟩
           obtain ⟨g, off, d1, e1, _, l1, k1⟩ := KvIn.here (LIn.keep0 HL.out HF.out) (by omega)
           simp only [Value.slice.injEq] at e1
           obtain ⟨rfl, _, rfl⟩ := e1
           obtain ⟨p0, p1, p2⟩ := k1 j x hx
           have t1 : decide (j < m.length) = true := by simpa using h
           have hk2 : Op.bytesLess x.key.toList ev.key.toList = false := by
             cases hk : Op.bytesLess x.key.toList ev.key.toList with
             | false => rfl
             | true => exact absurd ⟨x, hx, hk⟩ hgo
           clear hx k1 hgo
           go_wp2_with fail
           go_quiet (fail)
           clear p0 p1 p2 t1 hk2 h)
      rotate_left
      focus
          (have t1 : decide (j < m.length) = false := by simpa using h
           clear hgo
           go_wp2_with fail
           go_quiet (fail)
           clear t1 h)
      all_goals
        have HON := Lib.hid (HO.out.keep ((Fr.refl [] wr).drewN nq))
        have HN := Lib.hid (HF.out.drewN nq)
        cases hd : ev.del
      iterate 2
       focus
          (go_wp2_with (at_builtin; refine go_stop ?_)
           unfold Stop
           refine wpList_append_any rfl (.tmp 34) (.tmp 42) 56 101 (.agg #[.string ⟨#[]⟩, .string ⟨#[]⟩, .int .i64 0]) 3 40 rfl kv_slice kv_info rfl (by decide) _ (m.take j).length (allC Kv.cells (m.take j)) rfl (HON.out.lies.keep0 ((Fr.refl [] _).alloc _)) _ 1 ev.kv.cells rfl (lies_row (wr.drewN nq) 101 ev.kv.cells rfl _ rfl) ev.kv.cone (by unfold maxLen; omega) (by omega) ?_
           intro v' w' h1 h2 h3
           have ha := (HON.out.keep ((Fr.refl [] (wr.drewN nq)).alloc (.cells ev.kv.cells.toArray 101)))
           have HA : Hid (OutAt Kv.cells 101 3 wb w' v' (m.take j ++ ev.put)) := Lib.hid (by
             have e : ev.put = [ev.kv] := by unfold Ev.put; rw [hd]; rfl
             rw [e]
             exact OutAt.app ha (by have := HN.out.size; simp at this ⊢; omega) (xs := [ev.kv]) (by rw [allC_one]; exact h1) rfl h3)
           have HG := Lib.hid (OutAt.fr ha (HN.out.alloc _) h2)
           clear h1 h2 h3 ha HON HN b0 b1 b2 b3 hd HO HF
           go_wp2_with fail)
       rotate_left
       focus
          (have HA : Hid (OutAt Kv.cells 101 3 wb (wr.drewN nq) u5 (m.take j ++ ev.put)) := Lib.hid (by
             have e : ev.put = [] := by unfold Ev.put; rw [hd]; rfl
             rw [e, List.append_nil]
             exact HON.out)
           have HG := HN
           go_wp2_with fail
           clear HON HN b0 b1 b2 b3 hd HO HF)
       rotate_left
      all_goals
        go_loopw [5, 7] (fun v i wr => ∃ (j : Nat) (o : List Kv), i = .int .i64 j ∧ j ≤ m.length ∧ OutAt Kv.cells 101 3 wb wr v o ∧ o ++ (m.drop j).filter (fun x => !decide (x.key = ev.key)) = oneK m ev ∧ o.length ≤ j + 1 ∧ Fr [] wb wr) (fun _ i _ => m.length - (intOf i).toNat)
      all_goals try (
        case atStart =>
          refine ⟨j, _, rfl, hj, HA.out, ?_, ?_, HG.out⟩
          · unfold oneK; rw [HTD.out.1, HTD.out.2, List.append_assoc]
          · have : ev.put.length ≤ 1 := by unfold Ev.put; split <;> simp
            rw [List.length_append, hol]; omega)
      all_goals
        clear HA HG hol HTD HS
        obtain ⟨i, o, rfl, hi, ho, hs, hol, hf⟩ := hrel
        have HO := Lib.hid ho
        have HS := Lib.hid hs
        have HF := Lib.hid hf
        clear ho hs hf
        by_cases h : i < m.length
        · obtain ⟨x, hx⟩ : ∃ x, m[i]? = some x := ⟨_, List.getElem?_eq_getElem h⟩
          obtain ⟨g2, off2, c2, e1, _, l2, k2⟩ := KvIn.here (LIn.keep0 HL.out HF.out) (by omega)
          cases e1
          have HP := Lib.hid (k2 i x hx)
          obtain ⟨p0, p1, p2⟩ := HP.out
          obtain ⟨b0, b1, b2, b3, _⟩ := cells4 (HF.out.keep HX.out (by simp))
          have HSTEP := Lib.hid (filt_step (p := fun x => !decide (x.key = ev.key)) hx)
          have t1 : decide (i < m.length) = true := by simpa using h
          clear hx k2
          by_cases hk : x.key = ev.key
          · have HK := Lib.hid hk
            have hk2 : x.key.toList = ev.key.toList := by rw [hk]
            go_wp2_with fail
            go_quiet (fail)
            go_wp2_with fail
            go_roundw
            case rel =>
              refine ⟨i + 1, o, by go_num, by omega, HO.out.keep ((Fr.refl [] wr).drewN nq), ?_, by omega, HF.out.drewN nq⟩
              have h2 := HSTEP.out
              rw [if_neg (by simp [HK.out]), List.nil_append] at h2
              rw [← HS.out, h2]
            case measure => simp [intOf]; omega
          · have HK := Lib.hid hk
            have hk2 : ¬ x.key.toList = ev.key.toList := fun e => hk (bs_inj e)
            have hk3 : (x.key.toList == ev.key.toList) = false := by simpa using hk2
            have hk4 : (x.key.toList != ev.key.toList) = true := by simpa using hk2
            go_wp2_with fail
            go_quiet (fail)
            have HON := Lib.hid (HO.out.keep ((Fr.refl [] wr).drewN nq))
            have HN := Lib.hid (HF.out.drewN nq)
            clear b0 b1 b2 b3
            go_wp2_with (at_builtin; refine go_stop ?_)
            unfold Stop
            refine wpList_append_any rfl (.tmp 59) (.tmp 64) 56 101 (.agg #[.string ⟨#[]⟩, .string ⟨#[]⟩, .int .i64 0]) 3 40 rfl kv_slice kv_info rfl (by decide) _ o.length (allC Kv.cells o) rfl (HON.out.lies.keep0 ((Fr.refl [] _).alloc _)) _ 1 x.cells rfl (lies_row (wr.drewN nq) 101 x.cells rfl _ rfl) x.cone (by unfold maxLen; omega) (by omega) ?_
            intro v' w' h1 h2 h3
            have ha := (HON.out.keep ((Fr.refl [] (wr.drewN nq)).alloc (.cells x.cells.toArray 101)))
            have HA := Lib.hid (OutAt.app ha (by have := HN.out.size; simp at this ⊢; omega) (xs := [x]) (by rw [allC_one]; exact h1) rfl h3)
            have HG := Lib.hid (OutAt.fr ha (HN.out.alloc _) h2)
            clear h1 h2 h3 ha
            go_wp2_with fail
            go_roundw
            case rel =>
              refine ⟨i + 1, o ++ [x], by go_num, by omega, HA.out, ?_, by simp; omega, HG.out⟩
              have h2 := HSTEP.out
              rw [if_pos (by simp [HK.out])] at h2
              rw [← HS.out, h2, List.append_assoc]
            case measure => simp [intOf]; omega
        · have t1 : decide (i < m.length) = false := by simpa using h
          go_wp2
          go_ret
          refine ⟨_, rfl, ?_, ?_, ?_⟩
          · have := HS.out
            rw [List.drop_of_length_le (by omega), List.filter_nil, List.append_nil] at this
            rw [← this]
            exact HO.out.lies
          · have := HF.out
            rw [HWB.out] at this
            exact ((Fr.refl [] w).alloc _).trans this (by simp)
          · have h1 := HO.out.new
            have h2 : wb.heap.size = w.heap.size + 1 := by rw [HWB.out]; simp
            exact fun k hk => by have := h1 k hk; omega
theorem rone_kv (mv : Value) (m : List Kv) (ev : Ev) (w : World) (hl : KvIn w mv m) (hm : m.length ≤ many + many) : Calls Try.prog 48 #[mv, ev.agg] w fun e w' => ∃ v, e = .returned v ∧ KvAt w' v (oneK m ev) ∧ Fr [] w w' :=
  (rone_kv_new mv m ev w hl hm).mono fun _ _ ⟨v, h1, h2, h3, _⟩ => ⟨v, h1, h2, h3⟩
end Go.Proofs.Ytmbfcdoemcffpaa
