/- PACKAGE order: places, begin, whole: contracts -/
import Derived.Test.YtbbhekmhffhpfaaOrPl
namespace Go.Proofs.Ytbbhekmhffhpfaa
open Go.RowKit
set_option linter.unusedVariables false
set_option linter.unusedSimpArgs false

/-- where a key stands: at its first call's place -/
def plc (l : List Ca) (k : ByteArray) : Nat := l.findIdx (fun d => decide (d.key = k))
theorem plc_lt {l : List Ca} {j : Nat} {c : Ca} (h : l[j]? = some c) : plc l c.key < l.length := by
  unfold plc
  exact List.findIdx_lt_length_of_exists ⟨c, List.mem_of_getElem? h, by simp⟩
theorem plc_key {l : List Ca} {k : ByteArray} (h : plc l k < l.length) : ∃ d, l[plc l k]? = some d ∧ d.key = k := by
  refine ⟨l[plc l k], List.getElem?_eq_getElem h, ?_⟩
  have := List.findIdx_getElem (p := fun d : Ca => decide (d.key = k)) (xs := l) (w := h)
  exact of_decide_eq_true this
theorem plc_inj {l : List Ca} {j : Nat} {c : Ca} (h : l[j]? = some c) (k : ByteArray) : plc l k = plc l c.key ↔ k = c.key := by
  constructor
  · intro e
    obtain ⟨d, h1, h2⟩ := plc_key (plc_lt h)
    obtain ⟨d', h3, h4⟩ := plc_key (l := l) (k := k) (by rw [e]; exact plc_lt h)
    rw [e, h1] at h3
    cases h3
    rw [← h4, h2]
  · intro e; rw [e]
theorem plc_stop {l : List Ca} {j : Nat} {c : Ca} {k : ByteArray} (h : l[j]? = some c) (hk : c.key = k) (hno : ∀ (i : Nat) (d : Ca), i < j → l[i]? = some d → ¬ d.key = k) : plc l k = j := by
  subst hk
  have hlt := plc_lt h
  obtain ⟨d, h1, h2⟩ := plc_key hlt
  rcases Nat.lt_trichotomy (plc l c.key) j with h3 | h3 | h3
  · exact absurd h2 (hno _ _ h3 h1)
  · exact h3
  · have := List.not_of_lt_findIdx (p := fun d : Ca => decide (d.key = c.key)) (xs := l) h3
    obtain ⟨h4, rfl⟩ := List.getElem?_eq_some_iff.1 h
    simp at this

set_option maxHeartbeats 1000000 in
theorem or_same (d : Ca) (b : Nat) (c : Ca) (w : World) (hb : w.heap[b]? = some (.cells #[.int .i64 c.kind, .string c.key, .bool c.ok, .int .i64 c.inv, .int .i64 c.ret] 29 (0, 0))) :
    Calls Try.prog 29 #[d.agg, .pointer (some ⟨b, 0, none⟩)] w fun e w' => e = .returned (.bool (decide (d.key = c.key))) ∧ Fr [] w w' := by
  rw [← bs_beq]
  obtain ⟨x0, x1, x2, x3, x4, _⟩ := cells5 hb
  have hlt := lt_of_block hb
  have n1 : ¬ b = w.heap.size := by omega
  have n2 : ¬ w.heap.size = b := by omega
  clear hb
  unfold Ca.agg
  obtain ⟨k, s, o, i, r⟩ := d
  dsimp only
  go_enter Try.func29, Try.ntmps29
  go_wp2_with fail
  go_ret
  exact ⟨rfl, (Fr.refl [] w).alloc _⟩
set_option maxHeartbeats 2000000 in
theorem sl_indexSame (lv : Value) (l : List Ca) (b : Nat) (c : Ca) (w : World) (hl : CaIn w lv l) (hc : c ∈ l) (hb : w.heap[b]? = some (.cells #[.int .i64 c.kind, .string c.key, .bool c.ok, .int .i64 c.inv, .int .i64 c.ret] 29 (0, 0))) :
    Calls Try.prog 28 #[lv, .func (.func 29) #[] #[.pointer (some ⟨b, 0, none⟩)]] w fun e w' => e = .returned (.int .i64 (plc l c.key : Nat)) ∧ Fr [] w w' := by
  obtain ⟨s1, c1, rfl, la, ma⟩ := hl.form
  unfold maxLen at ma
  have HL := Lib.hid hl
  have HCM := Lib.hid hc
  have HB := Lib.hid hb
  clear hl hc hb
  obtain ⟨PL, hPL⟩ : ∃ PL, PL = plc l c.key := ⟨_, rfl⟩
  rw [← hPL]
  have HPL := Lib.hid hPL
  clear hPL
  go_enter Try.func28, Try.ntmps28
  go_wp2_with fail
  go_loopw [8] (fun i wr => ∃ (j : Nat), i = .int .i64 j ∧ j ≤ l.length ∧ (∀ (i : Nat) (d : Ca), i < j → l[i]? = some d → ¬ d.key = c.key) ∧ Fr [] w wr) (fun i _ => l.length - (intOf i).toNat)
  case atStart => exact ⟨0, rfl, Nat.zero_le _, fun i d h => absurd h (by omega), Fr.refl _ _⟩
  case round =>
    obtain ⟨j, rfl, hj, hi, hf⟩ := hrel
    have HI := Lib.hid hi
    have HF := Lib.hid hf
    clear hi hf
    by_cases h : j < l.length
    · obtain ⟨x, hx⟩ : ∃ x, l[j]? = some x := ⟨_, List.getElem?_eq_getElem h⟩
      obtain ⟨g, off, d1, e1, _, l1, k1⟩ := CaIn.here (LIn.keep0 HL.out HF.out) (by omega)
      simp only [Value.slice.injEq] at e1
      obtain ⟨rfl, _, rfl⟩ := e1
      obtain ⟨y0, y1, y2, y3, y4⟩ := k1 j x hx
      have t1 : decide (j < l.length) = true := by simpa using h
      have HX := Lib.hid hx
      clear hx k1
      obtain ⟨B, hB⟩ : ∃ B, B = decide (x.key = c.key) := ⟨_, rfl⟩
      have HCA : Hid (Calls Try.prog 29 #[x.agg, .pointer (some ⟨b, 0, none⟩)] wr fun e w' => e = .returned (.bool B) ∧ Fr [] wr w') := Lib.hid (by rw [hB]; exact or_same x b c wr (HF.out.keep HB.out (by simp)))
      have HBX := Lib.hid hB
      clear hB
      go_wp2_with (go_at_call 29; refine HCA.out.mono ?_; rintro e w2 ⟨rfl, hf⟩; refine go_stop ?_)
      unfold Stop
      have HF2 := Lib.hid (HF.out.trans hf (by simp))
      clear hf y0 y1 y2 y3 y4
      cases B
      · have HNO : Hid (∀ (i : Nat) (d : Ca), i < j + 1 → l[i]? = some d → ¬ d.key = c.key) := Lib.hid (by
          intro i d hi hd
          by_cases e : i = j
          · subst e
            rw [HX.out] at hd
            cases hd
            exact of_decide_eq_false HBX.out.symm
          · exact HI.out i d (by omega) hd)
        go_wp2_with fail
        go_roundw
        case rel => exact ⟨j + 1, by go_num, by omega, HNO.out, HF2.out⟩
        case measure => simp [intOf]; omega
      · have HE : Hid (PL = j) := Lib.hid (by rw [HPL.out]; exact plc_stop HX.out (of_decide_eq_true HBX.out.symm) HI.out)
        go_wp2_with fail
        go_ret
        exact ⟨by rw [HE.out]; rfl, HF2.out⟩
    · exfalso
      obtain ⟨i, hi⟩ := List.mem_iff_getElem?.1 HCM.out
      have := (List.getElem?_eq_some_iff.1 hi).1
      exact HI.out i c (by omega) hi rfl

/-! places -/
def inC (n : Nat) : List Value := [.int .i64 n]
def pls (l : List Ca) : List Nat := l.map (fun c => plc l c.key)
theorem pls_at {l : List Ca} {j : Nat} {c : Ca} (h : l[j]? = some c) : (pls l)[j]? = some (plc l c.key) := by simp [pls, h]
theorem in_slice : Try.prog.underlying 42 = some (.slice 3) := Try.underlying42
theorem in_info : (Try.prog.info? 3).map (fun i => (i.zero, i.size, i.bytes)) = some (some (.int .i64 0), 1, 8) := by kernel_rfl
def InIn (w : World) (v : Value) (l : List Nat) : Prop := LIn inC 1 w v l
theorem InIn.here {w : World} {v : Value} {l : List Nat} (h : InIn w v l) (hn : 0 < l.length) : ∃ g off c, v = .slice (some ⟨g, off, none⟩) l.length c ∧ g < w.heap.size ∧ l.length ≤ c ∧ ∀ i x, l[i]? = some x → w.cell? ⟨g, off + i, none⟩ = some (.int .i64 (x : Nat)) := by
  obtain ⟨g, off, c, hv, h1, h2, h3⟩ := LIn.here h hn
  refine ⟨g, off, c, hv, h1, h2, fun i x hx => ?_⟩
  have e0 := h3 i x hx 0 (by decide)
  rw [Nat.mul_one, Nat.add_zero] at e0
  exact e0
theorem take_more {α : Type} {m : List α} {j : Nat} {x : α} (hx : m[j]? = some x) : m.take (j + 1) = m.take j ++ [x] := by
  obtain ⟨hj, rfl⟩ := List.getElem?_eq_some_iff.1 hx
  rw [List.take_add_one, List.getElem?_eq_getElem hj]; rfl
set_option maxHeartbeats 2000000 in
theorem or_places (lv : Value) (l : List Ca) (w : World) (hl : CaIn w lv l) (h12 : l.length ≤ 12) :
    Calls Try.prog 19 #[lv] w fun e w' => ∃ v, e = .returned v ∧ InIn w' v (pls l) ∧ Fr [] w w' := by
  obtain ⟨s1, c1, rfl, la, ma⟩ := hl.form
  unfold maxLen at ma
  have HL := Lib.hid hl
  clear hl
  have hmf : ∀ (fn : Fn) (first cap : Array Value) (w : World), (Instr.makeFunc fn first cap).run Try.prog w = .ok (.func fn first cap) w := fun fn first cap w => rfl
  go_enter Try.func19, Try.ntmps19
  go_wp2_with fail
  go_loopw [3, 8] (fun v i wr => ∃ (j : Nat), i = .int .i64 j ∧ j ≤ l.length ∧ OutAt inC 3 1 w wr v ((pls l).take j) ∧ Fr [] w wr) (fun _ i _ => l.length - (intOf i).toNat)
  case atStart => exact ⟨0, rfl, Nat.zero_le _, OutAt.nil _ _, Fr.refl _ _⟩
  case round =>
    obtain ⟨j, rfl, hj, ho, hf⟩ := hrel
    have HO := Lib.hid ho
    have HF := Lib.hid hf
    clear ho hf
    by_cases h : j < l.length
    · obtain ⟨x, hx⟩ : ∃ x, l[j]? = some x := ⟨_, List.getElem?_eq_getElem h⟩
      obtain ⟨g, off, d1, e1, _, l1, k1⟩ := CaIn.here (LIn.keep0 HL.out HF.out) (by omega)
      simp only [Value.slice.injEq] at e1
      obtain ⟨rfl, _, rfl⟩ := e1
      obtain ⟨y0, y1, y2, y3, y4⟩ := k1 j x hx
      have t1 : decide (j < l.length) = true := by simpa using h
      have HX := Lib.hid hx
      have HP := Lib.hid (pls_at hx)
      have HNB := Lib.hid (new_block wr (.cells #[.int .i64 x.kind, .string x.key, .bool x.ok, .int .i64 x.inv, .int .i64 x.ret] 29))
      have HFB := Lib.hid ((Fr.refl [] wr).alloc (.cells #[.int .i64 x.kind, .string x.key, .bool x.ok, .int .i64 x.inv, .int .i64 x.ret] 29))
      have HIX := Lib.hid (sl_indexSame _ l wr.heap.size x _ (LIn.keep0 HL.out (Fr.trans (T := []) HF.out HFB.out (by simp))) (List.mem_of_getElem? hx) HNB.out)
      obtain ⟨PL, hPL⟩ : ∃ PL, PL = plc l x.key := ⟨_, rfl⟩
      rw [← hPL] at HIX HP
      clear hx k1 hPL
      go_wp2_with (go_at_call 28; refine HIX.out.mono ?_; rintro e w2 ⟨rfl, hf⟩; refine go_stop ?_)
      unfold Stop
      have HF2 := Lib.hid (Fr.trans (T := []) HFB.out hf (by simp))
      have HN := Lib.hid (Fr.trans (T := []) HF.out HF2.out (by simp))
      have HON := Lib.hid (HO.out.keep HF2.out)
      have hol : ((pls l).take j).length = j := by rw [List.length_take]; unfold pls; rw [List.length_map]; omega
      clear hf y0 y1 y2 y3 y4
      go_wp2_with (at_builtin; refine wpList_append_any rfl (.tmp 12) (.tmp 16) 42 3 (.int .i64 0) 1 8 rfl in_slice in_info rfl (by decide) _ ((pls l).take j).length (allC inC ((pls l).take j)) rfl (HON.out.lies.keep0 ((Fr.refl [] _).alloc _)) _ 1 (inC PL) rfl (lies_row w2 3 (inC PL) rfl _ rfl) (by intro y hy; simp only [inC, List.mem_singleton] at hy; subst hy; rfl) (by unfold maxLen; omega) (by omega) ?app)
      case app =>
      intro v' w' h1 h2 h3
      have ha := (HON.out.keep ((Fr.refl [] w2).alloc (.cells (inC PL).toArray 3)))
      have HA := Lib.hid (OutAt.app ha (by have := HN.out.size; simp at this ⊢; omega) (xs := [PL]) (by rw [allC_one, hol]; exact h1) rfl h3)
      have HG := Lib.hid (OutAt.fr ha (HN.out.alloc _) h2)
      clear h1 h2 h3 ha
      go_wp2_with fail
      go_roundw
      case rel =>
        refine ⟨j + 1, by go_num, by omega, ?_, HG.out⟩
        rw [take_more HP.out]
        exact HA.out
      case measure => simp [intOf]; omega
    · have t1 : decide (j < l.length) = false := by simpa using h
      go_wp2_with fail
      go_ret
      refine ⟨_, rfl, ?_, HF.out⟩
      have := HO.out.lies
      rw [List.take_of_length_le (by unfold pls; rw [List.length_map]; omega)] at this
      exact LAt.read this (fun _ => rfl)

/-! whole -/
theorem neg_ret (x : Ca) : decide (x.ret < 0) = !decide (0 ≤ x.ret) := by
  by_cases h : 0 ≤ x.ret
  · rw [decide_eq_true h, decide_eq_false (by omega)]; rfl
  · rw [decide_eq_false h, decide_eq_true (by omega)]; rfl
theorem allTo_less {l : List Ca} {f : Nat → Bool} {n m : Nat} (h : allTo l f n = true) (hm : m ≤ n) : allTo l f m = true :=
  allTo_iff.2 fun i c hi => allTo_iff.1 h i c (by omega)
set_option maxHeartbeats 2000000 in
theorem or_whole (d t : Nat) (lv : Value) (l : List Ca) (w : World) (hd : d < 4096) (hl : CaIn w lv l) (h12 : l.length ≤ 12) :
    Calls Try.prog 21 #[.agg #[.int .u64 d, .int .u64 t], lv] w fun e w' => e = .returned (.bool (allTo l (fun i => d.testBit i) l.length)) ∧ Fr [] w w' := by
  obtain ⟨s1, c1, rfl, la, ma⟩ := hl.form
  unfold maxLen at ma
  obtain ⟨wb, hwb⟩ : ∃ wb, wb = w.alloc (Obj.cells #[.int .u64 d, .int .u64 t] 48) := ⟨_, rfl⟩
  have HWB := Lib.hid hwb
  have HL : Hid (CaIn wb (.slice s1 l.length c1) l) := Lib.hid (by rw [hwb]; exact hl.keep0 ((Fr.refl [] w).alloc _))
  have HX : Hid (wb.heap[w.heap.size]? = some (.cells #[.int .u64 d, .int .u64 t] 48 (0, 0))) := Lib.hid (by rw [hwb]; exact new_block w _)
  have HFB : Hid (Fr [] w wb) := Lib.hid (by rw [hwb]; exact (Fr.refl [] w).alloc _)
  have HD := Lib.hid hd
  clear hl hwb hd
  obtain ⟨R, hR⟩ : ∃ R, R = allTo l (fun i => d.testBit i) l.length := ⟨_, rfl⟩
  rw [← hR]
  have HR := Lib.hid hR
  clear hR
  go_enter Try.func21, Try.ntmps21
  go_wp2_with fail
  rw [← HWB.out]
  go_loopw [9] (fun i wr => ∃ (j : Nat), i = .int .i64 j ∧ j ≤ l.length ∧ allTo l (fun i => d.testBit i) j = true ∧ Fr [] wb wr) (fun i _ => l.length - (intOf i).toNat)
  case atStart => exact ⟨0, rfl, Nat.zero_le _, rfl, Fr.refl _ _⟩
  case round =>
    obtain ⟨j, rfl, hj, hi, hf⟩ := hrel
    have HI := Lib.hid hi
    have HF := Lib.hid hf
    clear hi hf
    by_cases h : j < l.length
    · obtain ⟨x, hx⟩ : ∃ x, l[j]? = some x := ⟨_, List.getElem?_eq_getElem h⟩
      obtain ⟨g, off, d1, e1, _, l1, k1⟩ := CaIn.here (LIn.keep0 HL.out HF.out) (by omega)
      simp only [Value.slice.injEq] at e1
      obtain ⟨rfl, _, rfl⟩ := e1
      obtain ⟨y0, y1, y2, y3, y4⟩ := k1 j x hx
      have t1 : decide (j < l.length) = true := by simpa using h
      have HXX := Lib.hid hx
      obtain ⟨B, hB⟩ : ∃ B, B = decide (0 ≤ x.ret) := ⟨_, rfl⟩
      have HCA : Hid (∀ W, Calls Try.prog 16 #[x.agg] W fun e w' => e = .returned (.bool B) ∧ Fr [] W w') := Lib.hid fun W => by rw [hB]; exact or_answered x W
      have HB := Lib.hid hB
      obtain ⟨T, hT⟩ : ∃ T, T = d.testBit j := ⟨_, rfl⟩
      have HCB : Hid (∀ W, Calls Try.prog 22 #[.int .u64 d, .int .i64 j] W fun e w' => e = .returned (.bool T) ∧ w' = W) := Lib.hid fun W => by rw [hT]; exact or_has d j HD.out W (by omega)
      have HT := Lib.hid hT
      clear hx k1 hB hT
      have HST : Hid (allTo l (fun i => d.testBit i) (j + 1) = (T || !B)) := Lib.hid (by
        cases hT2 : T with
        | true => rw [allTo_skip (by rw [← HT.out, hT2])]; exact HI.out
        | false =>
          rw [allTo_step HXX.out (by rw [← HT.out, hT2]), HI.out, HB.out, neg_ret]
          rfl)
      go_wp2_with (go_at_call 16; refine (HCA.out _).mono ?_; rintro e w2 ⟨rfl, hf⟩; refine go_stop ?_)
      unfold Stop
      have HF2 := Lib.hid (Fr.trans (T := []) HF.out (Fr.trans (T := []) ((Fr.refl [] wr).alloc _) hf (by simp)) (by simp))
      clear hf y0 y1 y2 y3 y4
      obtain ⟨b0, b1, _⟩ := cells2 (HF2.out.keep HX.out (by simp))
      cases B
      · go_wp2_with fail
        go_roundw
        case rel => exact ⟨j + 1, by go_num, by omega, by rw [HST.out]; cases T <;> rfl, HF2.out⟩
        case measure => simp [intOf]; omega
      · cases T
        · have HE : Hid (R = false) := Lib.hid (by
            rw [HR.out]
            cases hz : allTo l (fun i => d.testBit i) l.length with
            | false => rfl
            | true =>
              have h3 := allTo_less hz (m := j + 1) (by omega)
              rw [HST.out] at h3; cases h3)
          go_wp2_with (go_at_call 22; refine (HCB.out _).mono ?_; rintro e w3 ⟨rfl, rfl⟩)
          go_ret
          exact ⟨by rw [HE.out]; rfl, Fr.trans (T := []) HFB.out HF2.out (by simp)⟩
        · go_wp2_with (go_at_call 22; refine (HCB.out _).mono ?_; rintro e w3 ⟨rfl, rfl⟩)
          go_roundw
          case rel => exact ⟨j + 1, by go_num, by omega, by rw [HST.out]; rfl, HF2.out⟩
          case measure => simp [intOf]; omega
    · have t1 : decide (j < l.length) = false := by simpa using h
      have HE : Hid (R = true) := Lib.hid (by rw [HR.out, ← HI.out]; congr 1; omega)
      go_wp2_with fail
      go_ret
      exact ⟨by rw [HE.out]; rfl, Fr.trans (T := []) HFB.out HF.out (by simp)⟩
end Go.Proofs.Ytbbhekmhffhpfaa
