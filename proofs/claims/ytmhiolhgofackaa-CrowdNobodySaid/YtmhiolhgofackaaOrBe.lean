/- PACKAGE order: places, begin, whole, and what they ask of slices: contracts
PACKAGE order: places, begin, whole: contracts
PACKAGE order: begin: contract -/
import Derived.Test.YtmhiolhgofackaaOrAt
import Derived.StillTailTactics
namespace Go.Proofs.Ytmhiolhgofackaa
open Go.RowKit
set_option linter.unusedVariables false
set_option linter.unusedSimpArgs false

set_option maxHeartbeats 1000000 in
theorem sl_index (sv : Value) (s : List ByteArray) (k : ByteArray) (w : World) (hs : SsIn w sv s) : Calls Try.prog 82 #[sv, .string k] w fun e w' => ∃ r, e = .returned (.int .i64 r) ∧ decide (0 ≤ r) = inS s k ∧ w' = w := by
  obtain ⟨s1, c1, rfl, la, ma⟩ := hs.form
  unfold maxLen at ma
  have HS := Lib.hid hs
  clear hs
  go_enter Try.func82, Try.ntmps82
  go_wp2_with fail
  go_loopw [8] (fun i wr => ∃ (j : Nat), i = .int .i64 j ∧ j ≤ s.length ∧ inS (s.drop j) k = inS s k ∧ wr = w) (fun i _ => s.length - (intOf i).toNat)
  case atStart => exact ⟨0, rfl, Nat.zero_le _, rfl, rfl⟩
  case round =>
    obtain ⟨j, rfl, hj, hi, rfl⟩ := hrel
    have HI := Lib.hid hi
    clear hi
    by_cases h : j < s.length
    · obtain ⟨x, hx⟩ : ∃ x, s[j]? = some x := ⟨_, List.getElem?_eq_getElem h⟩
      obtain ⟨g, off, d1, e1, _, l1, k1⟩ := SsIn.here HS.out (by omega)
      simp only [Value.slice.injEq] at e1
      obtain ⟨rfl, _, rfl⟩ := e1
      have p0 := k1 j x hx
      have t1 : decide (j < s.length) = true := by simpa using h
      have HX := Lib.hid hx
      clear hx k1
      by_cases hk : x = k
      · have t2 : (k.toList == x.toList) = true := by rw [bs_beq]; simpa using hk.symm
        have HK := Lib.hid hk
        clear hk
        go_wp2_with fail
        go_ret
        refine ⟨(j : Int), rfl, ?_, rfl⟩
        rw [inS_at (HK.out ▸ HX.out)]; simp
      · have t2 : (k.toList == x.toList) = false := by rw [bs_beq]; simpa using fun e => hk e.symm
        have HK := Lib.hid hk
        clear hk
        go_wp2_with fail
        go_roundw
        case rel => exact ⟨j + 1, by go_num, by omega, by rw [inS_step HX.out HK.out]; exact HI.out, trivial⟩
        case measure => simp [intOf]; omega
    · have t1 : decide (j < s.length) = false := by simpa using h
      go_wp2_with fail
      go_ret
      exact ⟨-1, rfl, by rw [← HI.out, List.drop_of_length_le (by omega)]; rfl, rfl⟩
set_option maxHeartbeats 1000000 in
theorem sl_contains (sv : Value) (s : List ByteArray) (k : ByteArray) (w : World) (hs : SsIn w sv s) : Calls Try.prog 63 #[sv, .string k] w fun e w' => e = .returned (.bool (inS s k)) ∧ w' = w := by
  have H := Lib.hid (sl_index sv s k w hs)
  obtain ⟨s1, c1, rfl, la, ma⟩ := hs.form
  obtain ⟨B, hB⟩ : ∃ B, B = inS s k := ⟨_, rfl⟩
  rw [← hB] at H ⊢
  clear hs hB
  go_enter Try.func63, Try.ntmps63
  go_wp2_with (go_at_call 82; refine H.out.mono ?_; rintro e w1 ⟨r, rfl, hr, rfl⟩; have HR := Lib.hid hr; clear hr)
  go_ret
  exact ⟨congrArg (fun b => Ending.returned (.bool b)) HR.out, rfl⟩
/-- a call that may not be -/
def badTo (l : List Ca) : Bool := l.any (fun c => ahead c c)
theorem badTo_at {l : List Ca} {j : Nat} {c : Ca} (h : l[j]? = some c) (ha : ahead c c = true) : badTo l = true := by
  unfold badTo
  rw [List.any_eq_true]
  exact ⟨c, List.mem_of_getElem? h, ha⟩
theorem badTo_step {l : List Ca} {j : Nat} {c : Ca} (h : l[j]? = some c) (ha : ahead c c = false) : badTo (l.drop (j + 1)) = badTo (l.drop j) := by
  obtain ⟨h1, rfl⟩ := List.getElem?_eq_some_iff.1 h
  conv => rhs; rw [List.drop_eq_getElem_cons h1]
  simp only [badTo, List.any_cons, ha, Bool.false_or]
set_option maxHeartbeats 2000000 in
theorem sl_indexMay (lv : Value) (l : List Ca) (w : World) (hl : CaIn w lv l) : Calls Try.prog 61 #[lv, .func (.func 30) #[] #[]] w fun e w' => ∃ r, e = .returned (.int .i64 r) ∧ decide (0 ≤ r) = badTo l ∧ Fr [] w w' := by
  obtain ⟨s1, c1, rfl, la, ma⟩ := hl.form
  unfold maxLen at ma
  have HL := Lib.hid hl
  clear hl
  go_enter Try.func61, Try.ntmps61
  go_wp2_with fail
  go_loopw [8] (fun i wr => ∃ (j : Nat), i = .int .i64 j ∧ j ≤ l.length ∧ badTo (l.drop j) = badTo l ∧ Fr [] w wr) (fun i _ => l.length - (intOf i).toNat)
  case atStart => exact ⟨0, rfl, Nat.zero_le _, rfl, Fr.refl _ _⟩
  case round =>
    obtain ⟨j, rfl, hj, hi, hf⟩ := hrel
    have HI := Lib.hid hi
    have HF := Lib.hid hf
    clear hi hf
    by_cases h : j < l.length
    · obtain ⟨x, hx⟩ : ∃ x, l[j]? = some x := ⟨_, List.getElem?_eq_getElem h⟩
      obtain ⟨g, off, d1, e1, _, l1, k1⟩ := CaIn.here (LIn.keep0 HL.out HF.out) (by omega)
      simp only [Value.slice.injEq] at e1
      obtain ⟨rfl, _, rfl⟩ := e1
      obtain ⟨y0, y1, y2, y3, y4⟩ := k1 j x hx
      have t1 : decide (j < l.length) = true := by simpa using h
      have HX := Lib.hid hx
      clear hx k1
      obtain ⟨B, hB⟩ : ∃ B, B = ahead x x := ⟨_, rfl⟩
      have HCA : Hid (∀ W, Calls Try.prog 30 #[x.agg] W fun e w' => e = .returned (.bool B) ∧ Fr [] W w') := Lib.hid fun W => by rw [hB]; exact or_mayNot x W
      have HB := Lib.hid hB
      clear hB
      go_wp2_with (go_at_call 30; refine (HCA.out _).mono ?_; rintro e w2 ⟨rfl, hf⟩; refine go_stop ?_)
      unfold Stop
      have HF2 := Lib.hid (HF.out.trans hf (by simp))
      clear hf y0 y1 y2 y3 y4
      cases B
      · go_wp2_with fail
        go_roundw
        case rel => exact ⟨j + 1, by go_num, by omega, by rw [badTo_step HX.out HB.out.symm]; exact HI.out, HF2.out⟩
        case measure => simp [intOf]; omega
      · go_wp2_with fail
        go_ret
        refine ⟨(j : Int), rfl, ?_, HF2.out⟩
        rw [badTo_at HX.out HB.out.symm]; simp
    · have t1 : decide (j < l.length) = false := by simpa using h
      go_wp2_with fail
      go_ret
      exact ⟨-1, rfl, by rw [← HI.out, List.drop_of_length_le (by omega)]; rfl, HF.out⟩
set_option maxHeartbeats 1000000 in
theorem sl_containsMay (lv : Value) (l : List Ca) (w : World) (hl : CaIn w lv l) : Calls Try.prog 29 #[lv, .func (.func 30) #[] #[]] w fun e w' => e = .returned (.bool (badTo l)) ∧ Fr [] w w' := by
  have H := Lib.hid (sl_indexMay lv l w hl)
  obtain ⟨s1, c1, rfl, la, ma⟩ := hl.form
  obtain ⟨B, hB⟩ : ∃ B, B = badTo l := ⟨_, rfl⟩
  rw [← hB] at H ⊢
  clear hl hB
  go_enter Try.func29, Try.ntmps29
  go_wp2_with (go_at_call 61; refine H.out.mono ?_; rintro e w1 ⟨r, rfl, hr, hf⟩; have HR := Lib.hid hr; have HF := Lib.hid hf; clear hr hf)
  go_ret
  exact ⟨congrArg (fun b => Ending.returned (.bool b)) HR.out, HF.out⟩
end Go.Proofs.Ytmhiolhgofackaa
namespace Go.Proofs.Ytmhiolhgofackaa
open Go.RowKit
set_option linter.unusedVariables false
set_option linter.unusedSimpArgs false

/-- where a key stands: at its first call's place -/
def plc (l : List Ca) (k : ByteArray) : Nat := l.findIdx (fun d => decide (d.key = k))
theorem plc_lt {l : List Ca} {j : Nat} {c : Ca} (h : l[j]? = some c) : plc l c.key < l.length := by
  unfold plc
  exact List.findIdx_lt_length_of_exists ⟨c, List.mem_of_getElem? h, by simp⟩
theorem plc_key {l : List Ca} {k : ByteArray} (h : plc l k < l.length) : ∃ d, l[plc l k]? = some d ∧ d.key = k := by
  refine ⟨l[plc l k], List.getElem?_eq_getElem h, ?_⟩
  have := List.findIdx_getElem (p := fun d : Ca => decide (d.key = k)) (xs := l) (w := h)
  exact of_decide_eq_true this
theorem plc_inj {l : List Ca} {j : Nat} {c : Ca} (h : l[j]? = some c) (k : ByteArray) : plc l k = plc l c.key ↔ k = c.key := by
  constructor
  · intro e
    obtain ⟨d, h1, h2⟩ := plc_key (plc_lt h)
    obtain ⟨d', h3, h4⟩ := plc_key (l := l) (k := k) (by rw [e]; exact plc_lt h)
    rw [e, h1] at h3
    cases h3
    rw [← h4, h2]
  · intro e; rw [e]
theorem plc_stop {l : List Ca} {j : Nat} {c : Ca} {k : ByteArray} (h : l[j]? = some c) (hk : c.key = k) (hno : ∀ (i : Nat) (d : Ca), i < j → l[i]? = some d → ¬ d.key = k) : plc l k = j := by
  subst hk
  have hlt := plc_lt h
  obtain ⟨d, h1, h2⟩ := plc_key hlt
  rcases Nat.lt_trichotomy (plc l c.key) j with h3 | h3 | h3
  · exact absurd h2 (hno _ _ h3 h1)
  · exact h3
  · have := List.not_of_lt_findIdx (p := fun d : Ca => decide (d.key = c.key)) (xs := l) h3
    obtain ⟨h4, rfl⟩ := List.getElem?_eq_some_iff.1 h
    simp at this

set_option maxHeartbeats 1000000 in
theorem or_same (d : Ca) (b : Nat) (c : Ca) (w : World) (hb : w.heap[b]? = some (.cells #[.int .i64 c.kind, .string c.key, .bool c.ok, .int .i64 c.inv, .int .i64 c.ret] 41 (0, 0))) :
    Calls Try.prog 62 #[d.agg, .pointer (some ⟨b, 0, none⟩)] w fun e w' => e = .returned (.bool (decide (d.key = c.key))) ∧ Fr [] w w' := by
  rw [← bs_beq]
  obtain ⟨x0, x1, x2, x3, x4, _⟩ := cells5 hb
  have hlt := lt_of_block hb
  have n1 : ¬ b = w.heap.size := by omega
  have n2 : ¬ w.heap.size = b := by omega
  clear hb
  unfold Ca.agg
  obtain ⟨k, s, o, i, r⟩ := d
  dsimp only
  go_enter Try.func62, Try.ntmps62
  go_wp2_with fail
  go_ret
  exact ⟨rfl, (Fr.refl [] w).alloc _⟩
set_option maxHeartbeats 2000000 in
theorem sl_indexSame (lv : Value) (l : List Ca) (b : Nat) (c : Ca) (w : World) (hl : CaIn w lv l) (hc : c ∈ l) (hb : w.heap[b]? = some (.cells #[.int .i64 c.kind, .string c.key, .bool c.ok, .int .i64 c.inv, .int .i64 c.ret] 41 (0, 0))) :
    Calls Try.prog 61 #[lv, .func (.func 62) #[] #[.pointer (some ⟨b, 0, none⟩)]] w fun e w' => e = .returned (.int .i64 (plc l c.key : Nat)) ∧ Fr [] w w' := by
  obtain ⟨s1, c1, rfl, la, ma⟩ := hl.form
  unfold maxLen at ma
  have HL := Lib.hid hl
  have HCM := Lib.hid hc
  have HB := Lib.hid hb
  clear hl hc hb
  obtain ⟨PL, hPL⟩ : ∃ PL, PL = plc l c.key := ⟨_, rfl⟩
  rw [← hPL]
  have HPL := Lib.hid hPL
  clear hPL
  go_enter Try.func61, Try.ntmps61
  go_wp2_with fail
  go_loopw [8] (fun i wr => ∃ (j : Nat), i = .int .i64 j ∧ j ≤ l.length ∧ (∀ (i : Nat) (d : Ca), i < j → l[i]? = some d → ¬ d.key = c.key) ∧ Fr [] w wr) (fun i _ => l.length - (intOf i).toNat)
  case atStart => exact ⟨0, rfl, Nat.zero_le _, fun i d h => absurd h (by omega), Fr.refl _ _⟩
  case round =>
    obtain ⟨j, rfl, hj, hi, hf⟩ := hrel
    have HI := Lib.hid hi
    have HF := Lib.hid hf
    clear hi hf
    by_cases h : j < l.length
    · obtain ⟨x, hx⟩ : ∃ x, l[j]? = some x := ⟨_, List.getElem?_eq_getElem h⟩
      obtain ⟨g, off, d1, e1, _, l1, k1⟩ := CaIn.here (LIn.keep0 HL.out HF.out) (by omega)
      simp only [Value.slice.injEq] at e1
      obtain ⟨rfl, _, rfl⟩ := e1
      obtain ⟨y0, y1, y2, y3, y4⟩ := k1 j x hx
      have t1 : decide (j < l.length) = true := by simpa using h
      have HX := Lib.hid hx
      clear hx k1
      obtain ⟨B, hB⟩ : ∃ B, B = decide (x.key = c.key) := ⟨_, rfl⟩
      have HCA : Hid (Calls Try.prog 62 #[x.agg, .pointer (some ⟨b, 0, none⟩)] wr fun e w' => e = .returned (.bool B) ∧ Fr [] wr w') := Lib.hid (by rw [hB]; exact or_same x b c wr (HF.out.keep HB.out (by simp)))
      have HBX := Lib.hid hB
      clear hB
      go_wp2_with (go_at_call 62; refine HCA.out.mono ?_; rintro e w2 ⟨rfl, hf⟩; refine go_stop ?_)
      unfold Stop
      have HF2 := Lib.hid (HF.out.trans hf (by simp))
      clear hf y0 y1 y2 y3 y4
      cases B
      · have HNO : Hid (∀ (i : Nat) (d : Ca), i < j + 1 → l[i]? = some d → ¬ d.key = c.key) := Lib.hid (by
          intro i d hi hd
          by_cases e : i = j
          · subst e
            rw [HX.out] at hd
            cases hd
            exact of_decide_eq_false HBX.out.symm
          · exact HI.out i d (by omega) hd)
        go_wp2_with fail
        go_roundw
        case rel => exact ⟨j + 1, by go_num, by omega, HNO.out, HF2.out⟩
        case measure => simp [intOf]; omega
      · have HE : Hid (PL = j) := Lib.hid (by rw [HPL.out]; exact plc_stop HX.out (of_decide_eq_true HBX.out.symm) HI.out)
        go_wp2_with fail
        go_ret
        exact ⟨by rw [HE.out]; rfl, HF2.out⟩
    · exfalso
      obtain ⟨i, hi⟩ := List.mem_iff_getElem?.1 HCM.out
      have := (List.getElem?_eq_some_iff.1 hi).1
      exact HI.out i c (by omega) hi rfl

/-! places -/
def inC (n : Nat) : List Value := [.int .i64 n]
def pls (l : List Ca) : List Nat := l.map (fun c => plc l c.key)
theorem pls_at {l : List Ca} {j : Nat} {c : Ca} (h : l[j]? = some c) : (pls l)[j]? = some (plc l c.key) := by simp [pls, h]
theorem in_slice : Try.prog.underlying 80 = some (.slice 3) := Try.underlying80
theorem in_info : (Try.prog.info? 3).map (fun i => (i.zero, i.size, i.bytes)) = some (some (.int .i64 0), 1, 8) := by kernel_rfl
def InIn (w : World) (v : Value) (l : List Nat) : Prop := LIn inC 1 w v l
theorem InIn.here {w : World} {v : Value} {l : List Nat} (h : InIn w v l) (hn : 0 < l.length) : ∃ g off c, v = .slice (some ⟨g, off, none⟩) l.length c ∧ g < w.heap.size ∧ l.length ≤ c ∧ ∀ i x, l[i]? = some x → w.cell? ⟨g, off + i, none⟩ = some (.int .i64 (x : Nat)) := by
  obtain ⟨g, off, c, hv, h1, h2, h3⟩ := LIn.here h hn
  refine ⟨g, off, c, hv, h1, h2, fun i x hx => ?_⟩
  have e0 := h3 i x hx 0 (by decide)
  rw [Nat.mul_one, Nat.add_zero] at e0
  exact e0
theorem take_more {α : Type} {m : List α} {j : Nat} {x : α} (hx : m[j]? = some x) : m.take (j + 1) = m.take j ++ [x] := by
  obtain ⟨hj, rfl⟩ := List.getElem?_eq_some_iff.1 hx
  rw [List.take_add_one, List.getElem?_eq_getElem hj]; rfl
set_option maxHeartbeats 2000000 in
theorem or_places (lv : Value) (l : List Ca) (w : World) (hl : CaIn w lv l) (h12 : l.length ≤ 12) :
    Calls Try.prog 31 #[lv] w fun e w' => ∃ v, e = .returned v ∧ InIn w' v (pls l) ∧ Fr [] w w' := by
  obtain ⟨s1, c1, rfl, la, ma⟩ := hl.form
  unfold maxLen at ma
  have HL := Lib.hid hl
  clear hl
  have hmf : ∀ (fn : Fn) (first cap : Array Value) (w : World), (Instr.makeFunc fn first cap).run Try.prog w = .ok (.func fn first cap) w := fun fn first cap w => rfl
  go_enter Try.func31, Try.ntmps31
  go_wp2_with fail
  go_loopw [3, 8] (fun v i wr => ∃ (j : Nat), i = .int .i64 j ∧ j ≤ l.length ∧ OutAt inC 3 1 w wr v ((pls l).take j) ∧ Fr [] w wr) (fun _ i _ => l.length - (intOf i).toNat)
  case atStart => exact ⟨0, rfl, Nat.zero_le _, OutAt.nil _ _, Fr.refl _ _⟩
  case round =>
    obtain ⟨j, rfl, hj, ho, hf⟩ := hrel
    have HO := Lib.hid ho
    have HF := Lib.hid hf
    clear ho hf
    by_cases h : j < l.length
    · obtain ⟨x, hx⟩ : ∃ x, l[j]? = some x := ⟨_, List.getElem?_eq_getElem h⟩
      obtain ⟨g, off, d1, e1, _, l1, k1⟩ := CaIn.here (LIn.keep0 HL.out HF.out) (by omega)
      simp only [Value.slice.injEq] at e1
      obtain ⟨rfl, _, rfl⟩ := e1
      obtain ⟨y0, y1, y2, y3, y4⟩ := k1 j x hx
      have t1 : decide (j < l.length) = true := by simpa using h
      have HX := Lib.hid hx
      have HP := Lib.hid (pls_at hx)
      have HNB := Lib.hid (new_block wr (.cells #[.int .i64 x.kind, .string x.key, .bool x.ok, .int .i64 x.inv, .int .i64 x.ret] 41))
      have HFB := Lib.hid ((Fr.refl [] wr).alloc (.cells #[.int .i64 x.kind, .string x.key, .bool x.ok, .int .i64 x.inv, .int .i64 x.ret] 41))
      have HIX := Lib.hid (sl_indexSame _ l wr.heap.size x _ (LIn.keep0 HL.out (Fr.trans (T := []) HF.out HFB.out (by simp))) (List.mem_of_getElem? hx) HNB.out)
      obtain ⟨PL, hPL⟩ : ∃ PL, PL = plc l x.key := ⟨_, rfl⟩
      rw [← hPL] at HIX HP
      clear hx k1 hPL
      go_wp2_with (go_at_call 61; refine HIX.out.mono ?_; rintro e w2 ⟨rfl, hf⟩; refine go_stop ?_)
      unfold Stop
      have HF2 := Lib.hid (Fr.trans (T := []) HFB.out hf (by simp))
      have HN := Lib.hid (Fr.trans (T := []) HF.out HF2.out (by simp))
      have HON := Lib.hid (HO.out.keep HF2.out)
      have hol : ((pls l).take j).length = j := by rw [List.length_take]; unfold pls; rw [List.length_map]; omega
      clear hf y0 y1 y2 y3 y4
      go_wp2_with (at_builtin; refine wpList_append_any rfl (.tmp 12) (.tmp 16) 80 3 (.int .i64 0) 1 8 rfl in_slice in_info rfl (by decide) _ ((pls l).take j).length (allC inC ((pls l).take j)) rfl (HON.out.lies.keep0 ((Fr.refl [] _).alloc _)) _ 1 (inC PL) rfl (lies_row w2 3 (inC PL) rfl _ rfl) (by intro y hy; simp only [inC, List.mem_singleton] at hy; subst hy; rfl) (by unfold maxLen; omega) (by omega) ?app)
      case app =>
      intro v' w' h1 h2 h3
      have ha := (HON.out.keep ((Fr.refl [] w2).alloc (.cells (inC PL).toArray 3)))
      have HA := Lib.hid (OutAt.app ha (by have := HN.out.size; simp at this ⊢; omega) (xs := [PL]) (by rw [allC_one, hol]; exact h1) rfl h3)
      have HG := Lib.hid (OutAt.fr ha (HN.out.alloc _) h2)
      clear h1 h2 h3 ha
      go_wp2_with fail
      go_roundw
      case rel =>
        refine ⟨j + 1, by go_num, by omega, ?_, HG.out⟩
        rw [take_more HP.out]
        exact HA.out
      case measure => simp [intOf]; omega
    · have t1 : decide (j < l.length) = false := by simpa using h
      go_wp2_with fail
      go_ret
      refine ⟨_, rfl, ?_, HF.out⟩
      have := HO.out.lies
      rw [List.take_of_length_le (by unfold pls; rw [List.length_map]; omega)] at this
      exact LAt.read this (fun _ => rfl)

/-! whole -/
theorem neg_ret (x : Ca) : decide (x.ret < 0) = !decide (0 ≤ x.ret) := by
  by_cases h : 0 ≤ x.ret
  · rw [decide_eq_true h, decide_eq_false (by omega)]; rfl
  · rw [decide_eq_false h, decide_eq_true (by omega)]; rfl
theorem allTo_less {l : List Ca} {f : Nat → Bool} {n m : Nat} (h : allTo l f n = true) (hm : m ≤ n) : allTo l f m = true :=
  allTo_iff.2 fun i c hi => allTo_iff.1 h i c (by omega)
set_option maxHeartbeats 2000000 in
theorem or_whole (d t : Nat) (lv : Value) (l : List Ca) (w : World) (hd : d < 4096) (hl : CaIn w lv l) (h12 : l.length ≤ 12) :
    Calls Try.prog 33 #[.agg #[.int .u64 d, .int .u64 t], lv] w fun e w' => e = .returned (.bool (allTo l (fun i => d.testBit i) l.length)) ∧ Fr [] w w' := by
  obtain ⟨s1, c1, rfl, la, ma⟩ := hl.form
  unfold maxLen at ma
  obtain ⟨wb, hwb⟩ : ∃ wb, wb = w.alloc (Obj.cells #[.int .u64 d, .int .u64 t] 86) := ⟨_, rfl⟩
  have HWB := Lib.hid hwb
  have HL : Hid (CaIn wb (.slice s1 l.length c1) l) := Lib.hid (by rw [hwb]; exact hl.keep0 ((Fr.refl [] w).alloc _))
  have HX : Hid (wb.heap[w.heap.size]? = some (.cells #[.int .u64 d, .int .u64 t] 86 (0, 0))) := Lib.hid (by rw [hwb]; exact new_block w _)
  have HFB : Hid (Fr [] w wb) := Lib.hid (by rw [hwb]; exact (Fr.refl [] w).alloc _)
  have HD := Lib.hid hd
  clear hl hwb hd
  obtain ⟨R, hR⟩ : ∃ R, R = allTo l (fun i => d.testBit i) l.length := ⟨_, rfl⟩
  rw [← hR]
  have HR := Lib.hid hR
  clear hR
  go_enter Try.func33, Try.ntmps33
  go_wp2_with fail
  rw [← HWB.out]
  go_loopw [9] (fun i wr => ∃ (j : Nat), i = .int .i64 j ∧ j ≤ l.length ∧ allTo l (fun i => d.testBit i) j = true ∧ Fr [] wb wr) (fun i _ => l.length - (intOf i).toNat)
  case atStart => exact ⟨0, rfl, Nat.zero_le _, rfl, Fr.refl _ _⟩
  case round =>
    obtain ⟨j, rfl, hj, hi, hf⟩ := hrel
    have HI := Lib.hid hi
    have HF := Lib.hid hf
    clear hi hf
    by_cases h : j < l.length
    · obtain ⟨x, hx⟩ : ∃ x, l[j]? = some x := ⟨_, List.getElem?_eq_getElem h⟩
      obtain ⟨g, off, d1, e1, _, l1, k1⟩ := CaIn.here (LIn.keep0 HL.out HF.out) (by omega)
      simp only [Value.slice.injEq] at e1
      obtain ⟨rfl, _, rfl⟩ := e1
      obtain ⟨y0, y1, y2, y3, y4⟩ := k1 j x hx
      have t1 : decide (j < l.length) = true := by simpa using h
      have HXX := Lib.hid hx
      obtain ⟨B, hB⟩ : ∃ B, B = decide (0 ≤ x.ret) := ⟨_, rfl⟩
      have HCA : Hid (∀ W, Calls Try.prog 37 #[x.agg] W fun e w' => e = .returned (.bool B) ∧ Fr [] W w') := Lib.hid fun W => by rw [hB]; exact or_answered x W
      have HB := Lib.hid hB
      obtain ⟨T, hT⟩ : ∃ T, T = d.testBit j := ⟨_, rfl⟩
      have HCB : Hid (∀ W, Calls Try.prog 34 #[.int .u64 d, .int .i64 j] W fun e w' => e = .returned (.bool T) ∧ w' = W) := Lib.hid fun W => by rw [hT]; exact or_has d j HD.out W (by omega)
      have HT := Lib.hid hT
      clear hx k1 hB hT
      have HST : Hid (allTo l (fun i => d.testBit i) (j + 1) = (T || !B)) := Lib.hid (by
        cases hT2 : T with
        | true => rw [allTo_skip (by rw [← HT.out, hT2])]; exact HI.out
        | false =>
          rw [allTo_step HXX.out (by rw [← HT.out, hT2]), HI.out, HB.out, neg_ret]
          rfl)
      go_wp2_with (go_at_call 37; refine (HCA.out _).mono ?_; rintro e w2 ⟨rfl, hf⟩; refine go_stop ?_)
      unfold Stop
      have HF2 := Lib.hid (Fr.trans (T := []) HF.out (Fr.trans (T := []) ((Fr.refl [] wr).alloc _) hf (by simp)) (by simp))
      clear hf y0 y1 y2 y3 y4
      obtain ⟨b0, b1, _⟩ := cells2 (HF2.out.keep HX.out (by simp))
      cases B
      · go_wp2_with fail
        go_roundw
        case rel => exact ⟨j + 1, by go_num, by omega, by rw [HST.out]; cases T <;> rfl, HF2.out⟩
        case measure => simp [intOf]; omega
      · cases T
        · have HE : Hid (R = false) := Lib.hid (by
            rw [HR.out]
            cases hz : allTo l (fun i => d.testBit i) l.length with
            | false => rfl
            | true =>
              have h3 := allTo_less hz (m := j + 1) (by omega)
              rw [HST.out] at h3; cases h3)
          go_wp2_with (go_at_call 34; refine (HCB.out _).mono ?_; rintro e w3 ⟨rfl, rfl⟩)
          go_ret
          exact ⟨by rw [HE.out]; rfl, Fr.trans (T := []) HFB.out HF2.out (by simp)⟩
        · go_wp2_with (go_at_call 34; refine (HCB.out _).mono ?_; rintro e w3 ⟨rfl, rfl⟩)
          go_roundw
          case rel => exact ⟨j + 1, by go_num, by omega, by rw [HST.out]; rfl, HF2.out⟩
          case measure => simp [intOf]; omega
    · have t1 : decide (j < l.length) = false := by simpa using h
      have HE : Hid (R = true) := Lib.hid (by rw [HR.out, ← HI.out]; congr 1; omega)
      go_wp2_with fail
      go_ret
      exact ⟨by rw [HE.out]; rfl, Fr.trans (T := []) HFB.out HF.out (by simp)⟩
end Go.Proofs.Ytmhiolhgofackaa
namespace Go.Proofs.Ytmhiolhgofackaa
open Go.RowKit
set_option linter.unusedVariables false
set_option linter.unusedSimpArgs false

/-- what is there of the keys of the first j calls -/
def ThereTo (first : List ByteArray) (l : List Ca) (j t : Nat) : Prop := t < 4096 ∧ ∀ (i : Nat) (c : Ca), i < j → l[i]? = some c → t.testBit (plc l c.key) = inS first c.key
theorem ThereTo.step {first : List ByteArray} {l : List Ca} {j t : Nat} {x : Ca} (h : ThereTo first l j t) (h12 : l.length ≤ 12) (hx : l[j]? = some x) : ThereTo first l (j + 1) (putN t (plc l x.key) (inS first x.key)) := by
  have hp := plc_lt hx
  refine ⟨putN_lt _ h.1 (by omega), fun i c hi hc => ?_⟩
  have hq := plc_lt hc
  rw [putN_bit _ _ h.1 (by omega) (by omega)]
  by_cases e : plc l c.key = plc l x.key
  · rw [if_pos e, (plc_inj hx c.key).1 e]
  · rw [if_neg e]
    refine h.2 i c ?_ hc
    rcases Nat.lt_or_ge i j with h1 | h1
    · exact h1
    · obtain rfl : i = j := by omega
      rw [hx] at hc
      cases hc
      exact absurd rfl e
set_option maxRecDepth 10000 in
set_option maxHeartbeats 4000000 in
theorem or_begin (fv lv kv : Value) (first : List ByteArray) (l : List Ca) (w : World) (hf : SsIn w fv first) (hl : CaIn w lv l) (hk : InIn w kv (pls l)) (h12 : l.length ≤ 12) :
    Calls Try.prog 39 #[fv, lv, kv] w fun e w' => ∃ t, e = .returned (.agg #[.int .u64 0, .int .u64 (t : Nat)]) ∧ ThereTo first l l.length t ∧ Fr [] w w' := by
  obtain ⟨fs, fc, rfl, fa, fb⟩ := LIn.form hf
  obtain ⟨ls, lc, rfl, la, lb⟩ := LIn.form hl
  obtain ⟨ks, kc, rfl, ka, kb⟩ := LIn.form hk
  have hpl : (pls l).length = l.length := by unfold pls; simp
  unfold maxLen at fb lb kb
  have HF := Lib.hid hf
  have HL := Lib.hid hl
  have HK := Lib.hid hk
  clear hf hl hk
  rw [hpl] at ka HK ⊢
  have HPL := Lib.hid hpl
  clear hpl
  go_enter Try.func39, Try.ntmps39
  go_wp2_with fail
  obtain ⟨wb, hwb⟩ : ∃ wb, wb = ((w.alloc (Obj.cells #[.int .u64 0, .int .u64 0] 86)).alloc (Obj.cells #[.int .u64 0, .int .u64 0] 86)) := ⟨_, rfl⟩
  rw [← hwb]
  have hZ : wb.heap.size = w.heap.size + 2 := by rw [hwb]; simp
  have hR : wb.heap[w.heap.size]? = some (Obj.cells #[.int .u64 0, .int .u64 0] 86 (0, 0)) := by rw [hwb]; exact blk_new2 w _ _
  have hP : wb.heap[w.heap.size + 1]? = some (Obj.cells #[.int .u64 0, .int .u64 0] 86 (0, 0)) := by
    rw [hwb]
    have := new_block (w.alloc (Obj.cells #[.int .u64 0, .int .u64 0] 86)) (Obj.cells #[.int .u64 0, .int .u64 0] 86)
    simpa using this
  have HFB : Hid (Fr [] w wb) := Lib.hid (by rw [hwb]; exact ((Fr.refl [] w).alloc _).alloc _)
  have HR := Lib.hid hR
  have HP := Lib.hid hP
  have HZ := Lib.hid hZ
  clear hwb hZ hR hP
  go_loopw [12] (fun i wr => ∃ (j t : Nat), i = .int .i64 j ∧ j ≤ l.length ∧ ThereTo first l j t ∧ wr.heap[w.heap.size + 1]? = some (Obj.cells #[.int .u64 0, .int .u64 (t : Nat)] 86 (0, 0)) ∧ Fr [w.heap.size + 1] wb wr) (fun i _ => l.length - (intOf i).toNat)
  case atStart => exact ⟨0, 0, rfl, Nat.zero_le _, ⟨by decide, fun i c h => absurd h (by omega)⟩, HP.out, Fr.refl _ _⟩
  case round =>
    obtain ⟨j, t, rfl, hj, ht, hp, hf⟩ := hrel
    have HT := Lib.hid ht
    have HP1 := Lib.hid hp
    have HF1 := Lib.hid hf
    have HFW := Lib.hid (Fr.trans (T := [w.heap.size + 1]) HFB.out hf (by simp))
    have hsz : w.heap.size + 2 ≤ wr.heap.size := by have := hf.size; have := HZ.out; omega
    have HSZ := Lib.hid hsz
    clear ht hf hsz
    by_cases h : j < l.length
    · obtain ⟨x, hx⟩ : ∃ x, l[j]? = some x := ⟨_, List.getElem?_eq_getElem h⟩
      obtain ⟨g, off, d1, e1, hg1, l1, k1⟩ := CaIn.here (LIn.keep0 HL.out HFW.out) (by omega)
      simp only [Value.slice.injEq] at e1
      obtain ⟨rfl, _, rfl⟩ := e1
      obtain ⟨y0, y1, y2, y3, y4⟩ := k1 j x hx
      obtain ⟨gk, ok, d2, e2, hg2, l2, k2⟩ := InIn.here (LIn.keep0 HK.out HFW.out) (by rw [HPL.out]; omega)
      rw [HPL.out] at e2
      simp only [Value.slice.injEq] at e2
      obtain ⟨rfl, _, rfl⟩ := e2
      have p0 := k2 j _ (pls_at hx)
      have t1 : decide (j < l.length) = true := by simpa using h
      have HX := Lib.hid hx
      have hpl := plc_lt hx
      have HST := Lib.hid (ThereTo.step HT.out h12 hx)
      obtain ⟨PL, hPL⟩ : ∃ PL, PL = plc l x.key := ⟨_, rfl⟩
      rw [← hPL] at HST p0 hpl
      obtain ⟨B, hB⟩ : ∃ B, B = inS first x.key := ⟨_, rfl⟩
      rw [← hB] at HST
      have HCON : Hid (∀ W, Fr [] w W → Calls Try.prog 63 #[.slice fs first.length fc, .string x.key] W fun e w' => e = .returned (.bool B) ∧ w' = W) := Lib.hid fun W hW => by rw [hB]; exact sl_contains _ first x.key W (LIn.keep0 HF.out hW)
      have HPUT : Hid (∀ W, Calls Try.prog 38 #[.int .u64 t, .int .i64 PL, .bool B] W fun e w' => e = .returned (.int .u64 (putN t PL B : Nat)) ∧ w' = W) := Lib.hid fun W => or_put t PL B HT.out.1 (by omega) W
      have HFA : Hid (∀ o, Fr [] w (wr.alloc o)) := Lib.hid fun o => HFW.out.alloc o
      have z2 := HSZ.out
      have n1 : ¬ w.heap.size + 1 = wr.heap.size := by omega
      have n2 : ¬ wr.heap.size = w.heap.size + 1 := by omega
      have n3 : w.heap.size + 1 < wr.heap.size := by omega
      have n4 : ¬ g = wr.heap.size := by omega
      have n5 : ¬ gk = wr.heap.size := by omega
      have n6 : ¬ wr.heap.size = g := by omega
      have n7 : ¬ wr.heap.size = gk := by omega
      obtain ⟨q0, q1, qf⟩ := cells2 hp
      have qf1 := qf 1
      clear hx k1 k2 hPL hB hp hpl z2 qf
      go_upto_region 5 with fail
      obtain ⟨wc, hwc⟩ : ∃ wc, wc = wr.alloc (Obj.cells #[.int .i64 x.kind, .string x.key, .bool x.ok, .int .i64 x.inv, .int .i64 x.ret] 41) := ⟨_, rfl⟩
      rw [← hwc]
      have hfc : Fr [] wr wc := by rw [hwc]; exact (Fr.refl [] wr).alloc _
      have hcb : wc.heap[wr.heap.size]? = some (Obj.cells #[.int .i64 x.kind, .string x.key, .bool x.ok, .int .i64 x.inv, .int .i64 x.ret] 41 (0, 0)) := by rw [hwc]; exact new_block wr _
      have HPC := Lib.hid (hfc.keep HP1.out (by simp))
      have HFC := Lib.hid hfc
      obtain ⟨c0, c1, c2, c3, c4, _⟩ := cells5 hcb
      obtain ⟨q0', q1', qf'⟩ := cells2 HPC.out
      have p0' := hfc.cell p0 (by simp)
      clear hwc hfc hcb y0 y1 y2 y3 y4 q0 q1 qf1 p0 n1 n2 n3 n4 n5 n6 n7
      have u0 : wc.drew.cell? ⟨wr.heap.size, 1, none⟩ = some (.string x.key) := c1
      have u1 : wc.drew.cell? ⟨w.heap.size + 1, 1, none⟩ = some (.int .u64 t) := q1'
      have u2 : wc.drew.cell? ⟨gk, ok + j, none⟩ = some (.int .i64 PL) := p0'
      have HCON2 := Lib.hid (HCON.out wc.drew (Fr.trans (T := []) HFW.out HFC.out (by simp)).drew)
      have HPUT2 := Lib.hid (HPUT.out wc.drew)
      have HPC2 : Hid (wc.drew.heap[w.heap.size + 1]? = some (Obj.cells #[.int .u64 0, .int .u64 (t : Nat)] 86 (0, 0))) := Lib.hid HPC.out
      have HFC2 := Lib.hid HFC.out.drew
      refine wp_region_still_tail 12 (by kernel_rfl) (by kernel_rfl) ?_
      simp only [List.take_succ_cons, List.take_zero, List.drop_succ_cons, List.drop_zero]
      change wpStill _ _ wc.drew (fun a' => wpList _ _ _ _ a' wc.drew) _ _
      clear c0 c1 c2 c3 c4 q0' q1' qf' p0' HPC HFC
      generalize wc.drew = wd at *
      repeat (first | still_step | still_call HCON2.out | still_call HPUT2.out)
      refine wpStill_nil ?_
      obtain ⟨q0, q1, qf⟩ := cells2 HPC2.out
      have qf1 := qf 1
      have HSET := Lib.hid (set_block HPC2.out 1 (.int .u64 (putN t PL B : Nat)))
      have HFS : Hid (Fr [w.heap.size + 1] wb (wd.setCell ⟨w.heap.size + 1, 1, none⟩ (.int .u64 (putN t PL B : Nat)))) := Lib.hid ((Fr.trans (T := []) HF1.out HFC2.out (by simp)).setCell (Or.inl (by simp)) _)
      have hlt := lt_of_block HPC2.out
      clear u0 u1 u2 qf
      go_wp2_with fail
      go_roundw
      case rel => exact ⟨j + 1, putN t PL B, by go_num, by omega, HST.out, HSET.out, HFS.out⟩
      case measure => simp [intOf]; omega
    · have t1 : decide (j < l.length) = false := by simpa using h
      obtain ⟨q0, q1, qf⟩ := cells2 hp
      obtain ⟨r0, r1, rf⟩ := cells2 (HF1.out.keep HR.out (by simp))
      have rf0 := rf 0
      have rf1 := rf 1
      have n1 : ¬ w.heap.size = w.heap.size + 1 := by omega
      have n2 : ¬ w.heap.size + 1 = w.heap.size := by omega
      have HEND : Hid (ThereTo first l l.length t) := Lib.hid (by
        have e : j = l.length := by omega
        rw [← e]; exact HT.out)
      have hlw : w.heap.size < wr.heap.size := by have := HSZ.out; omega
      have HFE : Hid (Fr [] w ((wr.setCell ⟨w.heap.size, 0, none⟩ (.int .u64 0)).setCell ⟨w.heap.size, 1, none⟩ (.int .u64 (t : Nat)))) := Lib.hid ((HFW.out.setCell (Or.inr (Nat.le_refl _)) _).setCell (Or.inr (Nat.le_refl _)) _)
      clear qf rf hp
      go_wp2_with fail
      refine bodyPost_ret (v := .agg #[.int .u64 0, .int .u64 (t : Nat)]) (by simp [results, Try.results39, go_sem, *]) rfl ?_
      exact ⟨t, rfl, HEND.out, HFE.out⟩
end Go.Proofs.Ytmhiolhgofackaa
