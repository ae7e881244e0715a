/- LISTS OF CALLS, OF STRINGS IN MEMORY; package order and impostref14: what is asked of one call
impostref14: In, Do: contracts
impostref14: can: contract -/
import Derived.Test.YtmhiolhgofackaaOr
import Derived.Test.YtmhiolhgofackaaRowG
import Derived.Laws.BitsLemmas
import Derived.Deep.DeepCutAuto
namespace Go.Proofs.Ytmhiolhgofackaa
open Go.RowKit
set_option linter.unusedVariables false
set_option linter.unusedSimpArgs false

def Ca.cells (x : Ca) : List Value := [.int .i64 x.kind, .string x.key, .bool x.ok, .int .i64 x.inv, .int .i64 x.ret]
def Ca.agg (x : Ca) : Value := .agg #[.int .i64 x.kind, .string x.key, .bool x.ok, .int .i64 x.inv, .int .i64 x.ret]
theorem Ca.clen (x : Ca) : x.cells.length = 5 := rfl
theorem Ca.cone (x : Ca) : ∀ y ∈ x.cells, y.oneCell' = true := by
  intro y hy
  simp only [Ca.cells, List.mem_cons, List.not_mem_nil, or_false] at hy
  rcases hy with rfl | rfl | rfl | rfl | rfl <;> rfl
def CaIn (w : World) (v : Value) (l : List Ca) : Prop := LIn Ca.cells 5 w v l
def strC (s : ByteArray) : List Value := [.string s]
def SsIn (w : World) (v : Value) (l : List ByteArray) : Prop := LIn strC 1 w v l
/-- a call's cells -/
structure CaC (w : World) (g off : Nat) (x : Ca) : Prop where
  c0 : w.cell? ⟨g, off, none⟩ = some (.int .i64 x.kind)
  c1 : w.cell? ⟨g, off + 1, none⟩ = some (.string x.key)
  c2 : w.cell? ⟨g, off + 2, none⟩ = some (.bool x.ok)
  c3 : w.cell? ⟨g, off + 3, none⟩ = some (.int .i64 x.inv)
  c4 : w.cell? ⟨g, off + 4, none⟩ = some (.int .i64 x.ret)
theorem CaIn.here {w : World} {v : Value} {l : List Ca} (h : CaIn w v l) (hn : 0 < l.length) : ∃ g off c, v = .slice (some ⟨g, off, none⟩) l.length c ∧ g < w.heap.size ∧ l.length ≤ c ∧ ∀ i x, l[i]? = some x → CaC w g (off + i * 5) x := by
  obtain ⟨g, off, c, hv, h1, h2, h3⟩ := LIn.here h hn
  refine ⟨g, off, c, hv, h1, h2, fun i x hx => ?_⟩
  have q := h3 i x hx
  have e0 := q 0 (by decide)
  have e1 := q 1 (by decide)
  have e2 := q 2 (by decide)
  have e3 := q 3 (by decide)
  have e4 := q 4 (by decide)
  rw [← Nat.add_assoc] at e0 e1 e2 e3 e4
  exact ⟨e0, e1, e2, e3, e4⟩
theorem SsIn.here {w : World} {v : Value} {l : List ByteArray} (h : SsIn w v l) (hn : 0 < l.length) : ∃ g off c, v = .slice (some ⟨g, off, none⟩) l.length c ∧ g < w.heap.size ∧ l.length ≤ c ∧ ∀ i x, l[i]? = some x → w.cell? ⟨g, off + i, none⟩ = some (.string x) := by
  obtain ⟨g, off, c, hv, h1, h2, h3⟩ := LIn.here h hn
  refine ⟨g, off, c, hv, h1, h2, fun i x hx => ?_⟩
  have e0 := h3 i x hx 0 (by decide)
  rw [Nat.mul_one, Nat.add_zero] at e0
  exact e0

/-! asked of one call -/
set_option maxHeartbeats 1000000 in
theorem or_answered (c : Ca) (w : World) : Calls Try.prog 37 #[c.agg] w fun e w' => e = .returned (.bool (decide (0 ≤ c.ret))) ∧ Fr [] w w' := by
  unfold Ca.agg
  obtain ⟨k, s, o, i, r⟩ := c
  dsimp only
  go_enter Try.func37, Try.ntmps37
  go_wp2_with fail
  go_ret
  exact ⟨rfl, (Fr.refl [] w).alloc _⟩
set_option maxHeartbeats 1000000 in
theorem or_ahead (a b : Ca) (w : World) : Calls Try.prog 35 #[a.agg, b.agg] w fun e w' => e = .returned (.bool (ahead a b)) ∧ Fr [] w w' := by
  have HA := Lib.hid fun (W : World) => or_answered a W
  have e : ahead a b = (decide (0 ≤ a.ret) && decide (a.ret < b.inv)) := rfl
  rw [e]; clear e
  unfold Ca.agg at *
  obtain ⟨k, s, o, i, r⟩ := a
  obtain ⟨k2, s2, o2, i2, r2⟩ := b
  dsimp only at *
  go_enter Try.func35, Try.ntmps35
  go_wp2_with (go_at_call 37; refine (HA.out _).mono ?_; rintro e w1 ⟨rfl, hf⟩; refine go_stop ?_)
  unfold Stop
  obtain ⟨h1, h2, h3⟩ := two_boxes hf
  obtain ⟨x0, x1, x2, x3, x4, _⟩ := cells5 h1
  obtain ⟨y0, y1, y2, y3, y4, _⟩ := cells5 h2
  have HF := Lib.hid h3
  clear h1 h2 h3 hf HA
  by_cases hr : 0 ≤ r
  · have t1 : decide (0 ≤ r) = true := decide_eq_true hr
    clear hr
    go_wp2_with fail
    go_ret
    exact ⟨by rw [t1]; rfl, HF.out⟩
  · have t1 : decide (0 ≤ r) = false := decide_eq_false hr
    clear hr
    go_wp2_with fail
    go_ret
    exact ⟨by rw [t1]; rfl, HF.out⟩
set_option maxHeartbeats 1000000 in
theorem or_mayNot (c : Ca) (w : World) : Calls Try.prog 30 #[c.agg] w fun e w' => e = .returned (.bool (ahead c c)) ∧ Fr [] w w' := by
  have HA := Lib.hid fun (W : World) => or_ahead c c W
  obtain ⟨B, hB⟩ : ∃ B, B = ahead c c := ⟨_, rfl⟩
  rw [← hB] at HA ⊢
  clear hB
  unfold Ca.agg at *
  obtain ⟨k, s, o, i, r⟩ := c
  dsimp only at *
  go_enter Try.func30, Try.ntmps30
  go_wp2_with (go_at_call 35; refine (HA.out _).mono ?_; rintro e w1 ⟨rfl, hf⟩; have HF := Lib.hid hf; clear hf)
  go_ret
  exact ⟨rfl, ((Fr.refl [] w).alloc _).trans HF.out (by simp)⟩
/-! bits -/
theorem u64_wrap (n : Int) (h0 : 0 ≤ n) (h1 : n < 2 ^ 12) : IntKind.u64.wrap n = n := by
  rw [show IntKind.u64.wrap n = n % 18446744073709551616 from by simp [IntKind.wrap, IntKind.bits, IntKind.signed]]
  exact Int.emod_eq_of_lt h0 (by omega)
theorem u64_pow {p : Nat} (hp : p < 12) : IntKind.u64.wrap (2 ^ p) = ((2 ^ p : Nat) : Int) := by
  have hp2 : 2 ^ p < 2 ^ 12 := Nat.pow_lt_pow_right (by decide) hp
  rw [u64_wrap _ (by exact_mod_cast Nat.zero_le _) (by exact_mod_cast hp2)]
  simp
theorem has_eq {d : Nat} (p : Nat) (hd : d < 4096) : (bits .and .u64 ((d:Int) / 2 ^ p) 1 == 1) = d.testBit p := by
  have h := (bits_nat .u64 12 (by decide) u64_wrap (d / 2 ^ p) 1 (Nat.lt_of_le_of_lt (Nat.div_le_self _ _) hd) (by decide)).1
  have e : ((d:Int) / 2 ^ p) = ((d / 2 ^ p : Nat) : Int) := by simp
  rw [e]
  have h' : bits .and .u64 ((d / 2 ^ p : Nat) : Int) 1 = ((d / 2 ^ p &&& 1 : Nat) : Int) := h
  rw [h', Nat.and_one_is_mod, Nat.testBit_eq_decide_div_mod_eq]
  by_cases k : d / 2 ^ p % 2 = 1
  · simp [k]
  · rw [decide_eq_false k, beq_eq_false_iff_ne]
    intro h; apply k; exact_mod_cast h
def putN (d p : Nat) (b : Bool) : Nat := if b = true then d ||| 2 ^ p else (BitVec.ofNat 64 d &&& ~~~ BitVec.ofNat 64 (2 ^ p)).toNat
theorem putN_lt {d p : Nat} (b : Bool) (hd : d < 4096) (hp : p < 12) : putN d p b < 4096 := by
  have hp2 : 2 ^ p < 2 ^ 12 := Nat.pow_lt_pow_right (by decide) hp
  unfold putN
  split
  · exact Nat.or_lt_two_pow (n := 12) hd hp2
  · rw [BitVec.toNat_and, BitVec.toNat_ofNat, Nat.mod_eq_of_lt (by omega)]
    exact Nat.lt_of_le_of_lt Nat.and_le_left hd
theorem putN_bit {d p : Nat} (b : Bool) (i : Nat) (hd : d < 4096) (hp : p < 12) (hi : i < 64) : (putN d p b).testBit i = if i = p then b else d.testBit i := by
  have hp2 : 2 ^ p < 2 ^ 12 := Nat.pow_lt_pow_right (by decide) hp
  unfold putN
  cases b
  · rw [if_neg (by simp), ← BitVec.getLsbD, BitVec.getLsbD_and, BitVec.getLsbD_not, BitVec.getLsbD_ofNat, BitVec.getLsbD_ofNat, Nat.testBit_two_pow]
    by_cases e : i = p
    · subst e; simp [hi]
    · have e' : ¬ p = i := fun h => e h.symm
      simp [hi, e, e']
  · rw [if_pos rfl, Nat.testBit_or, Nat.testBit_two_pow]
    by_cases e : i = p
    · subst e; simp
    · have e' : ¬ p = i := fun h => e h.symm
      simp [e, e']
theorem put_true {d p : Nat} (hd : d < 4096) (hp : p < 12) : bits .or .u64 (d : Int) (IntKind.u64.wrap (2 ^ p)) = ((putN d p true : Nat) : Int) := by
  have hp2 : 2 ^ p < 2 ^ 12 := Nat.pow_lt_pow_right (by decide) hp
  rw [u64_pow hp]
  exact (bits_nat .u64 12 (by decide) u64_wrap d (2 ^ p) hd hp2).2
theorem put_false {d p : Nat} (hd : d < 4096) (hp : p < 12) : bits .andNot .u64 (d : Int) (IntKind.u64.wrap (2 ^ p)) = ((putN d p false : Nat) : Int) := by
  have h := putN_lt false hd hp
  rw [u64_pow hp]
  have e : bits .andNot .u64 (d : Int) ((2 ^ p : Nat) : Int) = IntKind.u64.wrap ((putN d p false : Nat) : Int) := by
    unfold bits putN
    simp only [BitVec.ofInt_natCast]
    rfl
  rw [e]
  exact u64_wrap _ (Int.natCast_nonneg _) (by omega)
set_option maxHeartbeats 1000000 in
theorem or_do (k : Int) (b : Bool) (w : World) : Calls Try.prog 36 #[.int .i64 k, .bool b] w fun e w' => e = .returned (.tuple #[.bool (doOk k b), .bool (doIs k b)]) ∧ w' = w := by
  unfold doOk doIs
  by_cases h1 : k = 1
  · subst h1
    go_enter Try.func36, Try.ntmps36
    go_wp2_with fail
    go_ret2
    exact ⟨rfl, rfl⟩
  · by_cases h2 : k = 2
    · subst h2
      go_enter Try.func36, Try.ntmps36
      go_wp2_with fail
      go_ret2
      exact ⟨rfl, rfl⟩
    · have t1 : (k == 1) = false := by simpa using h1
      have t2 : (k == 2) = false := by simpa using h2
      rw [if_neg h1, if_neg h1, if_neg h2]
      clear h1 h2
      go_enter Try.func36, Try.ntmps36
      go_wp2_with fail
      go_ret2
      exact ⟨rfl, rfl⟩
set_option maxHeartbeats 1000000 in
theorem or_has (d p : Nat) (hd : d < 4096) (w : World) (hp : p < 64) : Calls Try.prog 34 #[.int .u64 d, .int .i64 p] w fun e w' => e = .returned (.bool (d.testBit p)) ∧ w' = w := by
  rw [← has_eq p hd]
  clear hd
  go_enter Try.func34, Try.ntmps34
  go_wp2_with fail
  go_ret
  exact ⟨rfl, rfl⟩
set_option maxHeartbeats 1000000 in
theorem or_put (d p : Nat) (b : Bool) (hd : d < 4096) (hp : p < 12) (w : World) : Calls Try.prog 38 #[.int .u64 d, .int .i64 p, .bool b] w fun e w' => e = .returned (.int .u64 (putN d p b : Nat)) ∧ w' = w := by
  cases b
  · rw [← put_false hd hp]
    clear hd
    go_enter Try.func38, Try.ntmps38
    go_wp2_with fail
    go_ret
    exact ⟨rfl, rfl⟩
  · rw [← put_true hd hp]
    clear hd
    go_enter Try.func38, Try.ntmps38
    go_wp2_with fail
    go_ret
    exact ⟨rfl, rfl⟩
end Go.Proofs.Ytmhiolhgofackaa
namespace Go.Proofs.Ytmhiolhgofackaa
open Go.RowKit
set_option linter.unusedVariables false
set_option linter.unusedSimpArgs false

theorem ss_slice : Try.prog.underlying 77 = some (.slice 9) := Try.underlying77
theorem ss_info : (Try.prog.info? 9).map (fun i => (i.zero, i.size, i.bytes)) = some (some (.string ⟨#[]⟩), 1, 16) := by kernel_rfl
theorem bs_beq (x k : ByteArray) : (x.toList == k.toList) = decide (x = k) := by
  by_cases h : x = k
  · subst h; simp
  · rw [decide_eq_false h, beq_eq_false_iff_ne]
    exact fun e => h (bs_inj e)
theorem inS_at {s : List ByteArray} {j : Nat} {k : ByteArray} (h : s[j]? = some k) : inS s k = true := by
  unfold inS
  rw [List.any_eq_true]
  exact ⟨k, List.mem_of_getElem? h, by simp⟩
theorem inS_step {s : List ByteArray} {j : Nat} {x k : ByteArray} (h : s[j]? = some x) (hn : ¬ x = k) : inS (s.drop (j + 1)) k = inS (s.drop j) k := by
  obtain ⟨h1, rfl⟩ := List.getElem?_eq_some_iff.1 h
  conv => rhs; rw [List.drop_eq_getElem_cons h1]
  simp only [inS, List.any_cons, decide_eq_false hn, Bool.false_or]
def notK (k x : ByteArray) : Bool := !decide (x = k)
theorem doL_1 {s : List ByteArray} {c : Ca} (h : c.kind = 1) : doL s c = s.filter (notK c.key) ++ [c.key] := by unfold doL; rw [if_pos h]; rfl
theorem doL_2 {s : List ByteArray} {c : Ca} (h : c.kind = 2) : doL s c = s.filter (notK c.key) := by unfold doL; rw [if_neg (by omega), if_pos h]; rfl
theorem doL_0 {s : List ByteArray} {c : Ca} (h1 : ¬ c.kind = 1) (h2 : ¬ c.kind = 2) : doL s c = s := by unfold doL; rw [if_neg h1, if_neg h2]
theorem allC_str1 (x : ByteArray) : strC x = [.string x] := rfl
end Go.Proofs.Ytmhiolhgofackaa
namespace Go.Proofs.Ytmhiolhgofackaa
open Go.RowKit
set_option linter.unusedVariables false
set_option linter.unusedSimpArgs false

open Classical in
noncomputable def fitB (l : List Ca) (f : Nat → Bool) (S : SetB) : Bool := decide (FitI l f S)
theorem fitB_true {l : List Ca} {f : Nat → Bool} {S : SetB} : fitB l f S = true ↔ FitI l f S := by unfold fitB; simp
theorem fitB_false {l : List Ca} {f : Nat → Bool} {S : SetB} : fitB l f S = false ↔ ¬ FitI l f S := by unfold fitB; simp
/-- place i can be done first, and leads to an end -/
def Leads (l : List Ca) (f : Nat → Bool) (S : SetB) (i : Nat) : Prop := ∃ c, l[i]? = some c ∧ f i = false ∧ (∀ j d, l[j]? = some d → f j = false → ahead d c = false) ∧ (0 ≤ c.ret → doOk c.kind (S c.key) = c.ok) ∧ FitI l (upd f i) (up S c)
def AllNeg (l : List Ca) (f : Nat → Bool) : Prop := ∀ (i : Nat) (c : Ca), l[i]? = some c → f i = false → c.ret < 0
theorem fitI_cases {l : List Ca} {f : Nat → Bool} {S : SetB} : FitI l f S ↔ AllNeg l f ∨ ∃ i, Leads l f S i := by
  constructor
  · intro h
    cases h with
    | all h => exact Or.inl h
    | step i c h1 h2 h3 h4 h5 => exact Or.inr ⟨i, c, h1, h2, h3, h4, h5⟩
  · rintro (h | ⟨i, c, h1, h2, h3, h4, h5⟩)
    · exact FitI.all h
    · exact FitI.step i c h1 h2 h3 h4 h5
/-- all of the first j that are left weren't answered -/
def allTo (l : List Ca) (f : Nat → Bool) : Nat → Bool
  | 0 => true
  | j + 1 => allTo l f j && (f j || ((l[j]?).map (fun c => decide (c.ret < 0))).getD true)
theorem allTo_iff {l : List Ca} {f : Nat → Bool} : ∀ {j : Nat}, allTo l f j = true ↔ ∀ i c, i < j → l[i]? = some c → f i = false → c.ret < 0
  | 0 => by simp [allTo]
  | j + 1 => by
    have ih := @allTo_iff l f j
    unfold allTo
    rw [Bool.and_eq_true, ih]
    constructor
    · rintro ⟨h1, h2⟩ i c hi hc hf
      by_cases e : i = j
      · subst e
        rw [hf, hc] at h2
        simpa using h2
      · exact h1 i c (by omega) hc hf
    · intro h
      refine ⟨fun i c hi => h i c (by omega), ?_⟩
      cases hf : f j with
      | true => rfl
      | false =>
        cases hc : l[j]? with
        | none => rfl
        | some c => simpa using h j c (by omega) hc hf
theorem allTo_len {l : List Ca} {f : Nat → Bool} : allTo l f l.length = true ↔ AllNeg l f := by
  rw [allTo_iff]
  exact ⟨fun h i c hc hf => h i c (List.getElem?_eq_some_iff.1 hc).1 hc hf, fun h i c _ hc hf => h i c hc hf⟩
theorem allTo_skip {l : List Ca} {f : Nat → Bool} {j : Nat} (h : f j = true) : allTo l f (j + 1) = allTo l f j := by simp [allTo, h]
theorem allTo_step {l : List Ca} {f : Nat → Bool} {j : Nat} {c : Ca} (hc : l[j]? = some c) (h : f j = false) : allTo l f (j + 1) = (allTo l f j && decide (c.ret < 0)) := by simp [allTo, h, hc]
/-- none of the first k that are left is ahead of c -/
def freeTo (l : List Ca) (f : Nat → Bool) (c : Ca) : Nat → Bool
  | 0 => true
  | j + 1 => freeTo l f c j && (f j || ((l[j]?).map (fun d => !(ahead d c))).getD true)
theorem freeTo_iff {l : List Ca} {f : Nat → Bool} {c : Ca} : ∀ {j : Nat}, freeTo l f c j = true ↔ ∀ i d, i < j → l[i]? = some d → f i = false → ahead d c = false
  | 0 => by simp [freeTo]
  | j + 1 => by
    have ih := @freeTo_iff l f c j
    unfold freeTo
    rw [Bool.and_eq_true, ih]
    constructor
    · rintro ⟨h1, h2⟩ i d hi hd hf
      by_cases e : i = j
      · subst e
        rw [hf, hd] at h2
        simpa using h2
      · exact h1 i d (by omega) hd hf
    · intro h
      refine ⟨fun i d hi => h i d (by omega), ?_⟩
      cases hf : f j with
      | true => rfl
      | false =>
        cases hd : l[j]? with
        | none => rfl
        | some d => simpa using h j d (by omega) hd hf
theorem freeTo_len {l : List Ca} {f : Nat → Bool} {c : Ca} : freeTo l f c l.length = true ↔ ∀ (j : Nat) (d : Ca), l[j]? = some d → f j = false → ahead d c = false := by
  rw [freeTo_iff]
  exact ⟨fun h i d hd hf => h i d (List.getElem?_eq_some_iff.1 hd).1 hd hf, fun h i d _ hd hf => h i d hd hf⟩
theorem freeTo_step {l : List Ca} {f : Nat → Bool} {c : Ca} {j : Nat} {d : Ca} (hd : l[j]? = some d) : freeTo l f c (j + 1) = (freeTo l f c j && (f j || !(ahead d c))) := by simp [freeTo, hd]
theorem not_leads {l : List Ca} {f : Nat → Bool} {S : SetB} {j : Nat} (h : ∀ i, i < j → ¬ Leads l f S i) (hj : ¬ Leads l f S j) : ∀ i, i < j + 1 → ¬ Leads l f S i := by
  intro i hi
  by_cases e : i = j
  · subst e; exact hj
  · exact h i (by omega)
theorem leads_done {l : List Ca} {f : Nat → Bool} {S : SetB} {j : Nat} (h : f j = true) : ¬ Leads l f S j := by
  rintro ⟨c, _, h2, _⟩; rw [h] at h2; cases h2
theorem leads_iff {l : List Ca} {f : Nat → Bool} {S : SetB} {j : Nat} {c : Ca} (hc : l[j]? = some c) (hf : f j = false) : Leads l f S j ↔ freeTo l f c l.length = true ∧ (0 ≤ c.ret → doOk c.kind (S c.key) = c.ok) ∧ FitI l (upd f j) (up S c) := by
  rw [freeTo_len]
  constructor
  · rintro ⟨c', h1, h2, h3, h4, h5⟩
    rw [hc] at h1; cases h1
    exact ⟨h3, h4, h5⟩
  · rintro ⟨h3, h4, h5⟩
    exact ⟨c, hc, hf, h3, h4, h5⟩
theorem fit_end {l : List Ca} {f : Nat → Bool} {S : SetB} (h : ∀ i, i < l.length → ¬ Leads l f S i) : fitB l f S = allTo l f l.length := by
  have hno : ¬ ∃ i, Leads l f S i := by
    rintro ⟨i, hi⟩
    have hi' := hi
    obtain ⟨c, hc, _⟩ := hi'
    exact h i (List.getElem?_eq_some_iff.1 hc).1 hi
  cases ha : allTo l f l.length with
  | true => exact fitB_true.2 (fitI_cases.2 (Or.inl (allTo_len.1 ha)))
  | false =>
    refine fitB_false.2 fun h => ?_
    rcases fitI_cases.1 h with h | h
    · rw [allTo_len.2 h] at ha; cases ha
    · exact hno h

/-! what is done, as a list of bools -/
def boC (b : Bool) : List Value := [.bool b]
def dones (l : List Ca) (f : Nat → Bool) : List Bool := (List.range l.length).map f
theorem dones_len (l : List Ca) (f : Nat → Bool) : (dones l f).length = l.length := by simp [dones]
theorem dones_at {l : List Ca} (f : Nat → Bool) {j : Nat} (h : j < l.length) : (dones l f)[j]? = some (f j) := by simp [dones, h]
theorem dones_set (l : List Ca) (f : Nat → Bool) (j : Nat) : (dones l f).set j true = dones l (upd f j) := by
  apply List.ext_getElem?
  intro i
  rw [List.getElem?_set]
  by_cases hi : i < l.length
  · by_cases e : j = i
    · subst e
      rw [if_pos rfl, if_pos (by rw [dones_len]; exact hi), dones_at _ hi]; simp [upd]
    · rw [if_neg e, dones_at _ hi, dones_at _ hi]
      have e' : ¬ i = j := fun h => e h.symm
      simp [upd, e']
  · have h1 : (dones l f)[i]? = none := List.getElem?_eq_none (by rw [dones_len]; omega)
    have h2 : (dones l (upd f j))[i]? = none := List.getElem?_eq_none (by rw [dones_len]; omega)
    rw [h1, h2]
    by_cases e : j = i
    · subst e; rw [if_pos rfl, if_neg (by rw [dones_len]; omega)]
    · rw [if_neg e]
def BoIn (w : World) (v : Value) (l : List Bool) : Prop := LIn boC 1 w v l
theorem BoIn.here {w : World} {v : Value} {l : List Bool} (h : BoIn w v l) (hn : 0 < l.length) : ∃ g off c, v = .slice (some ⟨g, off, none⟩) l.length c ∧ g < w.heap.size ∧ l.length ≤ c ∧ ∀ i x, l[i]? = some x → w.cell? ⟨g, off + i, none⟩ = some (.bool x) := by
  obtain ⟨g, off, c, hv, h1, h2, h3⟩ := LIn.here h hn
  refine ⟨g, off, c, hv, h1, h2, fun i x hx => ?_⟩
  have e0 := h3 i x hx 0 (by decide)
  rw [Nat.mul_one, Nat.add_zero] at e0
  exact e0
theorem bo_info : (Try.prog.info? 4).map (fun i => (i.zero, i.size, i.bytes)) = some (some (.bool false), 1, 1) := by kernel_rfl

/-- d[j] = true, of a row of bools of one's own -/
theorem bo_store {l : List Ca} {f : Nat → Bool} {w' : World} {v' : Value} {j : Nat} (hj : j < l.length) (h1 : Lies w' 4 1 v' l.length (allC boC (dones l f))) :
    ∃ g off c, v' = .slice (some ⟨g, off, none⟩) l.length c ∧ g < w'.heap.size ∧ w'.cell? ⟨g, off + j, none⟩ = some (.bool (f j)) ∧ w'.frozen? ⟨g, off + j, none⟩ = false ∧
      BoIn (w'.setCell ⟨g, off + j, none⟩ (.bool true)) (.slice (some ⟨g, off, none⟩) l.length c) (dones l (upd f j)) := by
  have h2 : LAt boC 4 1 w' v' (dones l f) := by unfold LAt; rw [dones_len]; exact h1
  obtain ⟨s0, c0, hv0, hc1, hc2⟩ := LAt.form h2
  obtain ⟨g, off, c, hv, hg, hc, hat⟩ := LAt.here h2 (fun _ => rfl) (by rw [dones_len]; omega)
  rw [hv] at hv0
  simp only [Value.slice.injEq] at hv0
  obtain ⟨_, _, e0⟩ := hv0
  rw [← e0] at hc1 hc2
  clear e0
  rw [dones_len] at hv hc hc1
  have h3 := hat j _ (dones_at f hj) 0 (by decide)
  rw [Nat.mul_one, Nat.add_zero] at h3
  refine ⟨g, off, c, hv, hg, h3.1, h3.2, some ⟨g, off, none⟩, c, by rw [dones_len], by rw [dones_len]; exact hc1, hc2, fun _ => ⟨g, off, rfl, by rw [World.size_setCell]; exact hg, ?_⟩⟩
  intro i x hx q hq
  obtain rfl : q = 0 := by omega
  have hi : i < l.length := by have := (List.getElem?_eq_some_iff.1 hx).1; rw [dones_len] at this; exact this
  rw [dones_at _ hi] at hx
  rw [Nat.mul_one, Nat.add_zero]
  simp only [Option.some.injEq] at hx
  subst hx
  unfold upd
  by_cases e : i = j
  · subst e
    rw [if_pos rfl, cs_same _ h3.1]; rfl
  · rw [if_neg e]
    have h4 := hat i _ (dones_at f hi) 0 (by decide)
    rw [Nat.mul_one, Nat.add_zero] at h4
    exact cs_other _ _ h4.1 (addr_ne (Or.inr (by omega)))

theorem left_le {l : List Ca} (f : Nat → Bool) : left l f ≤ l.length := by
  unfold left
  induction l generalizing f with
  | nil => simp [rest]
  | cons c l ih =>
    unfold rest
    split
    · exact Nat.le_succ_of_le (ih _)
    · simp; exact ih _
theorem made_false : ∀ n : Nat, (List.replicate n ([.bool false] : List Value)).flatten = List.replicate n (.bool false) := by
  intro n; induction n with
  | zero => rfl
  | succ n ih => rw [List.replicate_succ, List.flatten_cons, ih, List.replicate_succ]; rfl
theorem none_done {w : World} {l : List Ca} {v : Value} (h : w.ownsRow 0 4 1 v l.length (List.replicate l.length (.bool false))) : BoIn w v (dones l (fun _ => false)) := by
  have h2 : LAt boC 4 1 w v (dones l (fun _ => false)) := by
    unfold LAt
    rw [dones_len]
    have e : allC boC (dones l (fun _ => false)) = List.replicate l.length (.bool false) := by
      rw [← made_false]
      unfold allC dones
      congr 1
      rw [List.map_map, List.map_eq_replicate_iff.2 (by intro x _; rfl : ∀ x ∈ List.range l.length, (boC ∘ fun _ => false) x = [.bool false])]
      simp
    rw [e]
    exact Lies.of_own h
  exact LAt.read h2 (fun _ => rfl)
end Go.Proofs.Ytmhiolhgofackaa
