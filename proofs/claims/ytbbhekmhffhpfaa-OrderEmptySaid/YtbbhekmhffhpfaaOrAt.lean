/- LISTS OF CALLS, OF STRINGS IN MEMORY; package order and impostref14: what is asked of one call -/
import Derived.Test.YtbbhekmhffhpfaaOr
import Derived.Test.YtbbhekmhffhpfaaIn
import Derived.Laws.BitsLemmas
namespace Go.Proofs.Ytbbhekmhffhpfaa
open Go.RowKit
set_option linter.unusedVariables false
set_option linter.unusedSimpArgs false

def Ca.cells (x : Ca) : List Value := [.int .i64 x.kind, .string x.key, .bool x.ok, .int .i64 x.inv, .int .i64 x.ret]
def Ca.agg (x : Ca) : Value := .agg #[.int .i64 x.kind, .string x.key, .bool x.ok, .int .i64 x.inv, .int .i64 x.ret]
theorem Ca.clen (x : Ca) : x.cells.length = 5 := rfl
theorem Ca.cone (x : Ca) : ∀ y ∈ x.cells, y.oneCell' = true := by
  intro y hy
  simp only [Ca.cells, List.mem_cons, List.not_mem_nil, or_false] at hy
  rcases hy with rfl | rfl | rfl | rfl | rfl <;> rfl
def CaIn (w : World) (v : Value) (l : List Ca) : Prop := LIn Ca.cells 5 w v l
def strC (s : ByteArray) : List Value := [.string s]
def SsIn (w : World) (v : Value) (l : List ByteArray) : Prop := LIn strC 1 w v l
/-- a call's cells -/
structure CaC (w : World) (g off : Nat) (x : Ca) : Prop where
  c0 : w.cell? ⟨g, off, none⟩ = some (.int .i64 x.kind)
  c1 : w.cell? ⟨g, off + 1, none⟩ = some (.string x.key)
  c2 : w.cell? ⟨g, off + 2, none⟩ = some (.bool x.ok)
  c3 : w.cell? ⟨g, off + 3, none⟩ = some (.int .i64 x.inv)
  c4 : w.cell? ⟨g, off + 4, none⟩ = some (.int .i64 x.ret)
theorem CaIn.here {w : World} {v : Value} {l : List Ca} (h : CaIn w v l) (hn : 0 < l.length) : ∃ g off c, v = .slice (some ⟨g, off, none⟩) l.length c ∧ g < w.heap.size ∧ l.length ≤ c ∧ ∀ i x, l[i]? = some x → CaC w g (off + i * 5) x := by
  obtain ⟨g, off, c, hv, h1, h2, h3⟩ := LIn.here h hn
  refine ⟨g, off, c, hv, h1, h2, fun i x hx => ?_⟩
  have q := h3 i x hx
  have e0 := q 0 (by decide)
  have e1 := q 1 (by decide)
  have e2 := q 2 (by decide)
  have e3 := q 3 (by decide)
  have e4 := q 4 (by decide)
  rw [← Nat.add_assoc] at e0 e1 e2 e3 e4
  exact ⟨e0, e1, e2, e3, e4⟩
theorem SsIn.here {w : World} {v : Value} {l : List ByteArray} (h : SsIn w v l) (hn : 0 < l.length) : ∃ g off c, v = .slice (some ⟨g, off, none⟩) l.length c ∧ g < w.heap.size ∧ l.length ≤ c ∧ ∀ i x, l[i]? = some x → w.cell? ⟨g, off + i, none⟩ = some (.string x) := by
  obtain ⟨g, off, c, hv, h1, h2, h3⟩ := LIn.here h hn
  refine ⟨g, off, c, hv, h1, h2, fun i x hx => ?_⟩
  have e0 := h3 i x hx 0 (by decide)
  rw [Nat.mul_one, Nat.add_zero] at e0
  exact e0

/-! asked of one call -/
set_option maxHeartbeats 1000000 in
theorem or_answered (c : Ca) (w : World) : Calls Try.prog 16 #[c.agg] w fun e w' => e = .returned (.bool (decide (0 ≤ c.ret))) ∧ Fr [] w w' := by
  unfold Ca.agg
  obtain ⟨k, s, o, i, r⟩ := c
  dsimp only
  go_enter Try.func16, Try.ntmps16
  go_wp2_with fail
  go_ret
  exact ⟨rfl, (Fr.refl [] w).alloc _⟩
set_option maxHeartbeats 1000000 in
theorem or_ahead (a b : Ca) (w : World) : Calls Try.prog 11 #[a.agg, b.agg] w fun e w' => e = .returned (.bool (ahead a b)) ∧ Fr [] w w' := by
  have HA := Lib.hid fun (W : World) => or_answered a W
  have e : ahead a b = (decide (0 ≤ a.ret) && decide (a.ret < b.inv)) := rfl
  rw [e]; clear e
  unfold Ca.agg at *
  obtain ⟨k, s, o, i, r⟩ := a
  obtain ⟨k2, s2, o2, i2, r2⟩ := b
  dsimp only at *
  go_enter Try.func11, Try.ntmps11
  go_wp2_with (go_at_call 16; refine (HA.out _).mono ?_; rintro e w1 ⟨rfl, hf⟩; refine go_stop ?_)
  unfold Stop
  obtain ⟨h1, h2, h3⟩ := two_boxes hf
  obtain ⟨x0, x1, x2, x3, x4, _⟩ := cells5 h1
  obtain ⟨y0, y1, y2, y3, y4, _⟩ := cells5 h2
  have HF := Lib.hid h3
  clear h1 h2 h3 hf HA
  by_cases hr : 0 ≤ r
  · have t1 : decide (0 ≤ r) = true := decide_eq_true hr
    clear hr
    go_wp2_with fail
    go_ret
    exact ⟨by rw [t1]; rfl, HF.out⟩
  · have t1 : decide (0 ≤ r) = false := decide_eq_false hr
    clear hr
    go_wp2_with fail
    go_ret
    exact ⟨by rw [t1]; rfl, HF.out⟩
set_option maxHeartbeats 1000000 in
theorem or_mayNot (c : Ca) (w : World) : Calls Try.prog 18 #[c.agg] w fun e w' => e = .returned (.bool (ahead c c)) ∧ Fr [] w w' := by
  have HA := Lib.hid fun (W : World) => or_ahead c c W
  obtain ⟨B, hB⟩ : ∃ B, B = ahead c c := ⟨_, rfl⟩
  rw [← hB] at HA ⊢
  clear hB
  unfold Ca.agg at *
  obtain ⟨k, s, o, i, r⟩ := c
  dsimp only at *
  go_enter Try.func18, Try.ntmps18
  go_wp2_with (go_at_call 11; refine (HA.out _).mono ?_; rintro e w1 ⟨rfl, hf⟩; have HF := Lib.hid hf; clear hf)
  go_ret
  exact ⟨rfl, ((Fr.refl [] w).alloc _).trans HF.out (by simp)⟩
set_option maxHeartbeats 1000000 in
theorem rr_ahead (a b : Ca) (w : World) : Calls Try.prog 12 #[a.agg, b.agg] w fun e w' => e = .returned (.bool (ahead a b)) ∧ Fr [] w w' := by
  have e : ahead a b = (decide (0 ≤ a.ret) && decide (a.ret < b.inv)) := rfl
  rw [e]; clear e
  unfold Ca.agg at *
  obtain ⟨k, s, o, i, r⟩ := a
  obtain ⟨k2, s2, o2, i2, r2⟩ := b
  dsimp only at *
  by_cases hr : 0 ≤ r
  · have t1 : decide (0 ≤ r) = true := decide_eq_true hr
    clear hr
    go_enter Try.func12, Try.ntmps12
    go_wp2_with fail
    go_ret
    exact ⟨by rw [t1]; rfl, ((Fr.refl [] w).alloc _).alloc _⟩
  · have t1 : decide (0 ≤ r) = false := decide_eq_false hr
    clear hr
    go_enter Try.func12, Try.ntmps12
    go_wp2_with fail
    go_ret
    exact ⟨by rw [t1]; rfl, ((Fr.refl [] w).alloc _).alloc _⟩
/-! bits -/
theorem u64_wrap (n : Int) (h0 : 0 ≤ n) (h1 : n < 2 ^ 12) : IntKind.u64.wrap n = n := by
  rw [show IntKind.u64.wrap n = n % 18446744073709551616 from by simp [IntKind.wrap, IntKind.bits, IntKind.signed]]
  exact Int.emod_eq_of_lt h0 (by omega)
theorem u64_pow {p : Nat} (hp : p < 12) : IntKind.u64.wrap (2 ^ p) = ((2 ^ p : Nat) : Int) := by
  have hp2 : 2 ^ p < 2 ^ 12 := Nat.pow_lt_pow_right (by decide) hp
  rw [u64_wrap _ (by exact_mod_cast Nat.zero_le _) (by exact_mod_cast hp2)]
  simp
theorem has_eq {d : Nat} (p : Nat) (hd : d < 4096) : (bits .and .u64 ((d:Int) / 2 ^ p) 1 == 1) = d.testBit p := by
  have h := (bits_nat .u64 12 (by decide) u64_wrap (d / 2 ^ p) 1 (Nat.lt_of_le_of_lt (Nat.div_le_self _ _) hd) (by decide)).1
  have e : ((d:Int) / 2 ^ p) = ((d / 2 ^ p : Nat) : Int) := by simp
  rw [e]
  have h' : bits .and .u64 ((d / 2 ^ p : Nat) : Int) 1 = ((d / 2 ^ p &&& 1 : Nat) : Int) := h
  rw [h', Nat.and_one_is_mod, Nat.testBit_eq_decide_div_mod_eq]
  by_cases k : d / 2 ^ p % 2 = 1
  · simp [k]
  · rw [decide_eq_false k, beq_eq_false_iff_ne]
    intro h; apply k; exact_mod_cast h
def putN (d p : Nat) (b : Bool) : Nat := if b = true then d ||| 2 ^ p else (BitVec.ofNat 64 d &&& ~~~ BitVec.ofNat 64 (2 ^ p)).toNat
theorem putN_lt {d p : Nat} (b : Bool) (hd : d < 4096) (hp : p < 12) : putN d p b < 4096 := by
  have hp2 : 2 ^ p < 2 ^ 12 := Nat.pow_lt_pow_right (by decide) hp
  unfold putN
  split
  · exact Nat.or_lt_two_pow (n := 12) hd hp2
  · rw [BitVec.toNat_and, BitVec.toNat_ofNat, Nat.mod_eq_of_lt (by omega)]
    exact Nat.lt_of_le_of_lt Nat.and_le_left hd
theorem putN_bit {d p : Nat} (b : Bool) (i : Nat) (hd : d < 4096) (hp : p < 12) (hi : i < 64) : (putN d p b).testBit i = if i = p then b else d.testBit i := by
  have hp2 : 2 ^ p < 2 ^ 12 := Nat.pow_lt_pow_right (by decide) hp
  unfold putN
  cases b
  · rw [if_neg (by simp), ← BitVec.getLsbD, BitVec.getLsbD_and, BitVec.getLsbD_not, BitVec.getLsbD_ofNat, BitVec.getLsbD_ofNat, Nat.testBit_two_pow]
    by_cases e : i = p
    · subst e; simp [hi]
    · have e' : ¬ p = i := fun h => e h.symm
      simp [hi, e, e']
  · rw [if_pos rfl, Nat.testBit_or, Nat.testBit_two_pow]
    by_cases e : i = p
    · subst e; simp
    · have e' : ¬ p = i := fun h => e h.symm
      simp [e, e']
theorem put_true {d p : Nat} (hd : d < 4096) (hp : p < 12) : bits .or .u64 (d : Int) (IntKind.u64.wrap (2 ^ p)) = ((putN d p true : Nat) : Int) := by
  have hp2 : 2 ^ p < 2 ^ 12 := Nat.pow_lt_pow_right (by decide) hp
  rw [u64_pow hp]
  exact (bits_nat .u64 12 (by decide) u64_wrap d (2 ^ p) hd hp2).2
theorem put_false {d p : Nat} (hd : d < 4096) (hp : p < 12) : bits .andNot .u64 (d : Int) (IntKind.u64.wrap (2 ^ p)) = ((putN d p false : Nat) : Int) := by
  have h := putN_lt false hd hp
  rw [u64_pow hp]
  have e : bits .andNot .u64 (d : Int) ((2 ^ p : Nat) : Int) = IntKind.u64.wrap ((putN d p false : Nat) : Int) := by
    unfold bits putN
    simp only [BitVec.ofInt_natCast]
    rfl
  rw [e]
  exact u64_wrap _ (Int.natCast_nonneg _) (by omega)
set_option maxHeartbeats 1000000 in
theorem or_do (k : Int) (b : Bool) (w : World) : Calls Try.prog 23 #[.int .i64 k, .bool b] w fun e w' => e = .returned (.tuple #[.bool (doOk k b), .bool (doIs k b)]) ∧ w' = w := by
  unfold doOk doIs
  by_cases h1 : k = 1
  · subst h1
    go_enter Try.func23, Try.ntmps23
    go_wp2_with fail
    go_ret2
    exact ⟨rfl, rfl⟩
  · by_cases h2 : k = 2
    · subst h2
      go_enter Try.func23, Try.ntmps23
      go_wp2_with fail
      go_ret2
      exact ⟨rfl, rfl⟩
    · have t1 : (k == 1) = false := by simpa using h1
      have t2 : (k == 2) = false := by simpa using h2
      rw [if_neg h1, if_neg h1, if_neg h2]
      clear h1 h2
      go_enter Try.func23, Try.ntmps23
      go_wp2_with fail
      go_ret2
      exact ⟨rfl, rfl⟩
set_option maxHeartbeats 1000000 in
theorem or_has (d p : Nat) (hd : d < 4096) (w : World) (hp : p < 64) : Calls Try.prog 22 #[.int .u64 d, .int .i64 p] w fun e w' => e = .returned (.bool (d.testBit p)) ∧ w' = w := by
  rw [← has_eq p hd]
  clear hd
  go_enter Try.func22, Try.ntmps22
  go_wp2_with fail
  go_ret
  exact ⟨rfl, rfl⟩
set_option maxHeartbeats 1000000 in
theorem or_put (d p : Nat) (b : Bool) (hd : d < 4096) (hp : p < 12) (w : World) : Calls Try.prog 24 #[.int .u64 d, .int .i64 p, .bool b] w fun e w' => e = .returned (.int .u64 (putN d p b : Nat)) ∧ w' = w := by
  cases b
  · rw [← put_false hd hp]
    clear hd
    go_enter Try.func24, Try.ntmps24
    go_wp2_with fail
    go_ret
    exact ⟨rfl, rfl⟩
  · rw [← put_true hd hp]
    clear hd
    go_enter Try.func24, Try.ntmps24
    go_wp2_with fail
    go_ret
    exact ⟨rfl, rfl⟩
end Go.Proofs.Ytbbhekmhffhpfaa
