/- impostref14: In, Do: contracts -/
import Derived.Test.YtbbhekmhffhpfaaOrAt
import Derived.Test.YtbbhekmhffhpfaaEvSel
namespace Go.Proofs.Ytbbhekmhffhpfaa
open Go.RowKit
set_option linter.unusedVariables false
set_option linter.unusedSimpArgs false

theorem ss_slice : Try.prog.underlying 22 = some (.slice 9) := Try.underlying22
theorem ss_info : (Try.prog.info? 9).map (fun i => (i.zero, i.size, i.bytes)) = some (some (.string ⟨#[]⟩), 1, 16) := by kernel_rfl
theorem bs_beq (x k : ByteArray) : (x.toList == k.toList) = decide (x = k) := by
  by_cases h : x = k
  · subst h; simp
  · rw [decide_eq_false h, beq_eq_false_iff_ne]
    exact fun e => h (bs_inj e)
theorem inS_at {s : List ByteArray} {j : Nat} {k : ByteArray} (h : s[j]? = some k) : inS s k = true := by
  unfold inS
  rw [List.any_eq_true]
  exact ⟨k, List.mem_of_getElem? h, by simp⟩
theorem inS_step {s : List ByteArray} {j : Nat} {x k : ByteArray} (h : s[j]? = some x) (hn : ¬ x = k) : inS (s.drop (j + 1)) k = inS (s.drop j) k := by
  obtain ⟨h1, rfl⟩ := List.getElem?_eq_some_iff.1 h
  conv => rhs; rw [List.drop_eq_getElem_cons h1]
  simp only [inS, List.any_cons, decide_eq_false hn, Bool.false_or]
set_option maxHeartbeats 1000000 in
theorem rr_in (sv : Value) (s : List ByteArray) (k : ByteArray) (w : World) (hs : SsIn w sv s) : Calls Try.prog 27 #[sv, .string k] w fun e w' => e = .returned (.bool (inS s k)) ∧ Fr [] w w' := by
  obtain ⟨s1, c1, rfl, la, ma⟩ := hs.form
  unfold maxLen at ma
  have HS := Lib.hid hs
  clear hs
  go_enter Try.func27, Try.ntmps27
  go_wp2_with fail
  go_loopw [5] (fun i wr => ∃ (j : Nat), i = .int .i64 j ∧ j ≤ s.length ∧ inS (s.drop j) k = inS s k ∧ Fr [] w wr) (fun i _ => s.length - (intOf i).toNat)
  case atStart => exact ⟨0, rfl, Nat.zero_le _, rfl, Fr.refl _ _⟩
  case round =>
    obtain ⟨j, rfl, hj, hi, hf⟩ := hrel
    have HI := Lib.hid hi
    have HF := Lib.hid hf
    clear hi hf
    by_cases h : j < s.length
    · obtain ⟨x, hx⟩ : ∃ x, s[j]? = some x := ⟨_, List.getElem?_eq_getElem h⟩
      obtain ⟨g, off, d1, e1, _, l1, k1⟩ := SsIn.here (LIn.keep0 HS.out HF.out) (by omega)
      simp only [Value.slice.injEq] at e1
      obtain ⟨rfl, _, rfl⟩ := e1
      have p0 := k1 j x hx
      have t1 : decide (j < s.length) = true := by simpa using h
      have HX := Lib.hid hx
      clear hx k1
      by_cases hk : x = k
      · have t2 : (x.toList == k.toList) = true := by rw [bs_beq]; simpa using hk
        have HK := Lib.hid hk
        clear hk
        go_wp2_with fail
        go_ret
        exact ⟨by rw [inS_at (HK.out ▸ HX.out)]; rfl, HF.out⟩
      · have t2 : (x.toList == k.toList) = false := by rw [bs_beq]; simpa using hk
        have HK := Lib.hid hk
        clear hk
        go_wp2_with fail
        go_roundw
        case rel => exact ⟨j + 1, by go_num, by omega, by rw [inS_step HX.out HK.out]; exact HI.out, HF.out⟩
        case measure => simp [intOf]; omega
    · have t1 : decide (j < s.length) = false := by simpa using h
      go_wp2_with fail
      go_ret
      exact ⟨by rw [← HI.out, List.drop_of_length_le (by omega)]; rfl, HF.out⟩

def notK (k x : ByteArray) : Bool := !decide (x = k)
theorem doL_1 {s : List ByteArray} {c : Ca} (h : c.kind = 1) : doL s c = s.filter (notK c.key) ++ [c.key] := by unfold doL; rw [if_pos h]; rfl
theorem doL_2 {s : List ByteArray} {c : Ca} (h : c.kind = 2) : doL s c = s.filter (notK c.key) := by unfold doL; rw [if_neg (by omega), if_pos h]; rfl
theorem doL_0 {s : List ByteArray} {c : Ca} (h1 : ¬ c.kind = 1) (h2 : ¬ c.kind = 2) : doL s c = s := by unfold doL; rw [if_neg h1, if_neg h2]
theorem allC_str1 (x : ByteArray) : strC x = [.string x] := rfl
set_option maxHeartbeats 4000000 in
theorem rr_do_new (sv : Value) (s : List ByteArray) (c : Ca) (w : World) (hs : SsIn w sv s) (hb : s.length ≤ 1000) : Calls Try.prog 15 #[sv, c.agg] w fun e w' => ∃ v, e = .returned (.tuple #[v, .bool (doOk c.kind (inS s c.key))]) ∧ SsIn w' v (doL s c) ∧ Fr [] w w' ∧ (v = sv ∨ ∀ k, v.ownBlock = some k → w.heap.size ≤ k) := by
  obtain ⟨s1, c1, rfl, la, ma⟩ := hs.form
  unfold maxLen at ma
  obtain ⟨wb, hwb⟩ : ∃ wb, wb = w.alloc (Obj.cells #[.int .i64 c.kind, .string c.key, .bool c.ok, .int .i64 c.inv, .int .i64 c.ret] 31) := ⟨_, rfl⟩
  have HWB := Lib.hid hwb
  have HS : Hid (SsIn wb (.slice s1 s.length c1) s) := Lib.hid (by rw [hwb]; exact hs.keep0 ((Fr.refl [] w).alloc _))
  have HX : Hid (wb.heap[w.heap.size]? = some (.cells #[.int .i64 c.kind, .string c.key, .bool c.ok, .int .i64 c.inv, .int .i64 c.ret] 31 (0, 0))) := Lib.hid (by rw [hwb]; exact new_block w _)
  have HFB : Hid (Fr [] w wb) := Lib.hid (by rw [hwb]; exact (Fr.refl [] w).alloc _)
  clear hs hwb
  have D1 := Lib.hid (@doL_1 s c)
  have D2 := Lib.hid (@doL_2 s c)
  have D0 := Lib.hid (@doL_0 s c)
  unfold Ca.agg
  obtain ⟨kind, key, ok, inv, ret⟩ := c
  dsimp only at *
  obtain ⟨RL, hRL⟩ : ∃ RL, RL = doL s ⟨kind, key, ok, inv, ret⟩ := ⟨_, rfl⟩
  rw [← hRL] at D1 D2 D0 ⊢
  clear hRL
  obtain ⟨IS, hIS⟩ : ∃ IS, IS = inS s key := ⟨_, rfl⟩
  have HIN : Hid (Calls Try.prog 27 #[.slice s1 s.length c1, .string key] wb fun e w' => e = .returned (.bool IS) ∧ Fr [] wb w') := Lib.hid (by rw [hIS]; exact rr_in _ s key wb HS.out)
  rw [← hIS]
  clear hIS
  obtain ⟨b0, b1, b2, b3, b4, _⟩ := cells5 HX.out
  by_cases h1 : kind = 1
  · subst h1
    have HR := Lib.hid (D1.out rfl)
    clear D0 D1 D2
    have e9 : doOk 1 IS = !IS := rfl
    rw [e9]; clear e9
    go_enter Try.func15, Try.ntmps15
    go_wp2_with (go_at_call 27; rw [← HWB.out]; refine HIN.out.mono ?_; rintro e w1 ⟨rfl, hf⟩; refine go_stop ?_)
    unfold Stop
    have HF1 := Lib.hid hf
    have HX1 := Lib.hid (hf.keep HX.out (by simp))
    have HS1 := Lib.hid (LIn.keep0 HS.out hf)
    have hlt1 : w.heap.size < w1.heap.size := Nat.lt_of_lt_of_le (lt_of_block HX.out) hf.size
    have HLT := Lib.hid hlt1
    clear hf b0 b1 b2 b3 b4 hlt1
    obtain ⟨b0, b1, b2, b3, b4, _⟩ := cells5 HX1.out
    go_wp2_with fail
    go_loopw [7, 8] (fun v i wr => ∃ (j : Nat) (o : List ByteArray), i = .int .i64 j ∧ j ≤ s.length ∧ OutAt strC 9 1 w1 wr v o ∧ o ++ (s.drop j).filter (notK key) = s.filter (notK key) ∧ o.length ≤ j ∧ Fr [] w1 wr) (fun _ i _ => s.length - (intOf i).toNat)
    case atStart => exact ⟨0, [], rfl, Nat.zero_le _, OutAt.nil _ _, rfl, Nat.zero_le _, Fr.refl _ _⟩
    case round =>
      obtain ⟨j, o, rfl, hj, ho, hs, hol, hf⟩ := hrel
      have HO := Lib.hid ho
      have HOS := Lib.hid hs
      have HF := Lib.hid hf
      have HOL := Lib.hid hol
      clear ho hs hf hol b0 b1 b2 b3 b4
      obtain ⟨b0, b1, b2, b3, b4, _⟩ := cells5 (HF.out.keep HX1.out (by simp))
      have n3 : w.heap.size < wr.heap.size := Nat.lt_of_lt_of_le HLT.out HF.out.size
      have n1 : ¬ w.heap.size = wr.heap.size := by omega
      have n2 : ¬ wr.heap.size = w.heap.size := by omega
      by_cases h : j < s.length
      · obtain ⟨x, hx⟩ : ∃ x, s[j]? = some x := ⟨_, List.getElem?_eq_getElem h⟩
        obtain ⟨g, off, d1, e1, _, l1, k1⟩ := SsIn.here (LIn.keep0 HS1.out HF.out) (by omega)
        simp only [Value.slice.injEq] at e1
        obtain ⟨rfl, _, rfl⟩ := e1
        have p0 := k1 j x hx
        have t1 : decide (j < s.length) = true := by simpa using h
        have HSTEP := Lib.hid (filt_step (p := notK key) hx)
        clear hx k1
        by_cases hk : x = key
        · have t2 : (x.toList == key.toList) = true := by rw [bs_beq]; simpa using hk
          have HK : Hid (notK key x = false) := Lib.hid (by unfold notK; simpa using hk)
          clear hk
          go_wp2_with fail
          go_quiet (fail)
          go_wp2_with fail
          go_roundw
          case rel =>
            refine ⟨j + 1, o, by go_num, by omega, HO.out.keep ((Fr.refl [] wr).drewN nq), ?_, by have := HOL.out; omega, HF.out.drewN nq⟩
            have h2 := HSTEP.out
            rw [HK.out, if_neg (by simp), List.nil_append] at h2
            rw [← h2]; exact HOS.out
          case measure => simp [intOf]; omega
        · have t2 : (x.toList == key.toList) = false := by rw [bs_beq]; simpa using hk
          have HK : Hid (notK key x = true) := Lib.hid (by unfold notK; simpa using hk)
          clear hk
          go_wp2_with fail
          go_quiet (fail)
          have HON := Lib.hid (HO.out.keep ((Fr.refl [] wr).drewN nq))
          have HN := Lib.hid (HF.out.drewN nq)
          have hol := HOL.out
          go_wp2_with (at_builtin; refine wpList_append_any rfl (.tmp 36) (.tmp 41) 22 9 (.string ⟨#[]⟩) 1 16 rfl ss_slice ss_info rfl (by decide) _ o.length (allC strC o) rfl (HON.out.lies.keep0 ((Fr.refl [] _).alloc _)) _ 1 (strC x) rfl (lies_row (wr.drewN nq) 9 (strC x) rfl _ rfl) (by intro y hy; simp only [strC, List.mem_singleton] at hy; subst hy; rfl) (by unfold maxLen; omega) (by omega) ?app)
          case app =>
          intro v' w' h1 h2 h3
          have ha := (HON.out.keep ((Fr.refl [] (wr.drewN nq)).alloc (.cells (strC x).toArray 9)))
          have HA := Lib.hid (OutAt.app ha (by have := HN.out.size; simp at this ⊢; omega) (xs := [x]) (by rw [allC_one]; exact h1) rfl h3)
          have HG := Lib.hid (OutAt.fr ha (HN.out.alloc _) h2)
          clear h1 h2 h3 ha
          go_wp2_with fail
          go_roundw
          case rel =>
            refine ⟨j + 1, o ++ [x], by go_num, by omega, HA.out, ?_, by simp; omega, HG.out⟩
            have h2 := HSTEP.out
            rw [HK.out, if_pos rfl] at h2
            rw [← HOS.out, h2, List.append_assoc]
          case measure => simp [intOf]; omega
      · have t1 : decide (j < s.length) = false := by simpa using h
        have HE : Hid (s.filter (notK key) = o) := Lib.hid (by rw [← HOS.out, List.drop_of_length_le (by omega)]; simp)
        have hol := HOL.out
        go_wp2_with (at_builtin; refine wpList_append_any rfl (.tmp 48) (.tmp 51) 22 9 (.string ⟨#[]⟩) 1 16 rfl ss_slice ss_info rfl (by decide) _ o.length (allC strC o) rfl (HO.out.lies.keep0 ((Fr.refl [] _).alloc _)) _ 1 (strC key) rfl (lies_row wr 9 (strC key) rfl _ rfl) (by intro y hy; simp only [strC, List.mem_singleton] at hy; subst hy; rfl) (by unfold maxLen; omega) (by omega) ?app)
        case app =>
        intro v' w' h1 h2 h3
        have ha := (HO.out.keep ((Fr.refl [] wr).alloc (.cells (strC key).toArray 9)))
        have HA := Lib.hid (OutAt.app ha (by have := HF.out.size; simp at this ⊢; omega) (xs := [key]) (by rw [allC_one]; exact h1) rfl h3)
        have HG := Lib.hid (OutAt.fr ha (HF.out.alloc _) h2)
        clear h1 h2 h3 ha
        go_wp2_with fail
        go_ret2
        refine ⟨v', rfl, ?_, HFB.out.trans (HF1.out.trans HG.out (by simp)) (by simp), Or.inr fun k hk => Nat.le_trans (Nat.le_trans HFB.out.size HF1.out.size) (HA.out.new k hk)⟩
        rw [HR.out, HE.out]
        exact LAt.read HA.out.lies (fun _ => rfl)
  · by_cases h2 : kind = 2
    · subst h2
      have HR := Lib.hid (D2.out rfl)
      clear D0 D1 D2 h1
      have e9 : doOk 2 IS = IS := rfl
      rw [e9]; clear e9
      go_enter Try.func15, Try.ntmps15
      go_wp2_with (go_at_call 27; rw [← HWB.out]; refine HIN.out.mono ?_; rintro e w1 ⟨rfl, hf⟩; refine go_stop ?_)
      unfold Stop
      have HF1 := Lib.hid hf
      have HX1 := Lib.hid (hf.keep HX.out (by simp))
      have HS1 := Lib.hid (LIn.keep0 HS.out hf)
      have hlt1 : w.heap.size < w1.heap.size := Nat.lt_of_lt_of_le (lt_of_block HX.out) hf.size
      have HLT := Lib.hid hlt1
      clear hf b0 b1 b2 b3 b4 hlt1
      obtain ⟨b0, b1, b2, b3, b4, _⟩ := cells5 HX1.out
      go_wp2_with fail
      go_loopw [7, 8] (fun v i wr => ∃ (j : Nat) (o : List ByteArray), i = .int .i64 j ∧ j ≤ s.length ∧ OutAt strC 9 1 w1 wr v o ∧ o ++ (s.drop j).filter (notK key) = s.filter (notK key) ∧ o.length ≤ j ∧ Fr [] w1 wr) (fun _ i _ => s.length - (intOf i).toNat)
      case atStart => exact ⟨0, [], rfl, Nat.zero_le _, OutAt.nil _ _, rfl, Nat.zero_le _, Fr.refl _ _⟩
      case round =>
        obtain ⟨j, o, rfl, hj, ho, hs, hol, hf⟩ := hrel
        have HO := Lib.hid ho
        have HOS := Lib.hid hs
        have HF := Lib.hid hf
        have HOL := Lib.hid hol
        clear ho hs hf hol b0 b1 b2 b3 b4
        obtain ⟨b0, b1, b2, b3, b4, _⟩ := cells5 (HF.out.keep HX1.out (by simp))
        have n3 : w.heap.size < wr.heap.size := Nat.lt_of_lt_of_le HLT.out HF.out.size
        have n1 : ¬ w.heap.size = wr.heap.size := by omega
        have n2 : ¬ wr.heap.size = w.heap.size := by omega
        by_cases h : j < s.length
        · obtain ⟨x, hx⟩ : ∃ x, s[j]? = some x := ⟨_, List.getElem?_eq_getElem h⟩
          obtain ⟨g, off, d1, e1, _, l1, k1⟩ := SsIn.here (LIn.keep0 HS1.out HF.out) (by omega)
          simp only [Value.slice.injEq] at e1
          obtain ⟨rfl, _, rfl⟩ := e1
          have p0 := k1 j x hx
          have t1 : decide (j < s.length) = true := by simpa using h
          have HSTEP := Lib.hid (filt_step (p := notK key) hx)
          clear hx k1
          by_cases hk : x = key
          · have t2 : (x.toList == key.toList) = true := by rw [bs_beq]; simpa using hk
            have HK : Hid (notK key x = false) := Lib.hid (by unfold notK; simpa using hk)
            clear hk
            go_wp2_with fail
            go_quiet (fail)
            go_wp2_with fail
            go_roundw
            case rel =>
              refine ⟨j + 1, o, by go_num, by omega, HO.out.keep ((Fr.refl [] wr).drewN nq), ?_, by have := HOL.out; omega, HF.out.drewN nq⟩
              have h2 := HSTEP.out
              rw [HK.out, if_neg (by simp), List.nil_append] at h2
              rw [← h2]; exact HOS.out
            case measure => simp [intOf]; omega
          · have t2 : (x.toList == key.toList) = false := by rw [bs_beq]; simpa using hk
            have HK : Hid (notK key x = true) := Lib.hid (by unfold notK; simpa using hk)
            clear hk
            go_wp2_with fail
            go_quiet (fail)
            have HON := Lib.hid (HO.out.keep ((Fr.refl [] wr).drewN nq))
            have HN := Lib.hid (HF.out.drewN nq)
            have hol := HOL.out
            go_wp2_with (at_builtin; refine wpList_append_any rfl (.tmp 36) (.tmp 41) 22 9 (.string ⟨#[]⟩) 1 16 rfl ss_slice ss_info rfl (by decide) _ o.length (allC strC o) rfl (HON.out.lies.keep0 ((Fr.refl [] _).alloc _)) _ 1 (strC x) rfl (lies_row (wr.drewN nq) 9 (strC x) rfl _ rfl) (by intro y hy; simp only [strC, List.mem_singleton] at hy; subst hy; rfl) (by unfold maxLen; omega) (by omega) ?app)
            case app =>
            intro v' w' h1 h2 h3
            have ha := (HON.out.keep ((Fr.refl [] (wr.drewN nq)).alloc (.cells (strC x).toArray 9)))
            have HA := Lib.hid (OutAt.app ha (by have := HN.out.size; simp at this ⊢; omega) (xs := [x]) (by rw [allC_one]; exact h1) rfl h3)
            have HG := Lib.hid (OutAt.fr ha (HN.out.alloc _) h2)
            clear h1 h2 h3 ha
            go_wp2_with fail
            go_roundw
            case rel =>
              refine ⟨j + 1, o ++ [x], by go_num, by omega, HA.out, ?_, by simp; omega, HG.out⟩
              have h2 := HSTEP.out
              rw [HK.out, if_pos rfl] at h2
              rw [← HOS.out, h2, List.append_assoc]
            case measure => simp [intOf]; omega
        · have t1 : decide (j < s.length) = false := by simpa using h
          have HE : Hid (s.filter (notK key) = o) := Lib.hid (by rw [← HOS.out, List.drop_of_length_le (by omega)]; simp)
          have hol := HOL.out
          go_wp2_with fail
          go_ret2
          refine ⟨_, rfl, ?_, HFB.out.trans (HF1.out.trans HF.out (by simp)) (by simp), Or.inr fun k hk => Nat.le_trans (Nat.le_trans HFB.out.size HF1.out.size) (HO.out.new k hk)⟩
          rw [HR.out, HE.out]
          exact LAt.read HO.out.lies (fun _ => rfl)

    · have HR := Lib.hid (D0.out h1 h2)
      have e9 : doOk kind IS = IS := by unfold doOk; rw [if_neg h1]
      rw [e9]; clear e9
      have t1 : (kind != 1) = true := by simpa using h1
      have t2 : (kind != 2) = true := by simpa using h2
      clear D0 D1 D2 h1 h2
      go_enter Try.func15, Try.ntmps15
      go_wp2_with (go_at_call 27; rw [← HWB.out]; refine HIN.out.mono ?_; rintro e w1 ⟨rfl, hf⟩; refine go_stop ?_)
      unfold Stop
      have HF1 := Lib.hid hf
      have HX1 := Lib.hid (hf.keep HX.out (by simp))
      have HS1 := Lib.hid (LIn.keep0 HS.out hf)
      have hlt1 : w.heap.size < w1.heap.size := Nat.lt_of_lt_of_le (lt_of_block HX.out) hf.size
      have HLT := Lib.hid hlt1
      clear hf b0 b1 b2 b3 b4 hlt1
      obtain ⟨b0, b1, b2, b3, b4, _⟩ := cells5 HX1.out
      go_wp2_with fail
      go_ret2
      refine ⟨_, rfl, ?_, HFB.out.trans HF1.out (by simp), Or.inl rfl⟩
      rw [HR.out]
      exact HS1.out
theorem rr_do (sv : Value) (s : List ByteArray) (c : Ca) (w : World) (hs : SsIn w sv s) (hb : s.length ≤ 1000) : Calls Try.prog 15 #[sv, c.agg] w fun e w' => ∃ v, e = .returned (.tuple #[v, .bool (doOk c.kind (inS s c.key))]) ∧ SsIn w' v (doL s c) ∧ Fr [] w w' :=
  (rr_do_new sv s c w hs hb).mono fun e w' ⟨v, h1, h2, h3, _⟩ => ⟨v, h1, h2, h3⟩
end Go.Proofs.Ytbbhekmhffhpfaa
