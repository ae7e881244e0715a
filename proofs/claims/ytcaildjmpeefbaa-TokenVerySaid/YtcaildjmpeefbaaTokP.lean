/- PACKAGE token: parse -/
import Derived.Test.YtcaildjmpeefbaaTokC
namespace Go.Proofs.Ytcaildjmpeefbaa
open Go.RowKit
set_option linter.unusedVariables false
set_option linter.unusedSimpArgs false

/-- three bytes and more, one by one -/
theorem bytes3 (s : ByteArray) (h : ¬ s.size < 3) : ∃ (a b c : UInt8) (r : Bs), s.toList = a :: b :: c :: r ∧ r.length + 3 = s.size ∧ (∀ k : 0 < s.size, s[0] = a) ∧ (∀ k : 1 < s.size, s[1] = b) ∧ (∀ k : 2 < s.size, s[2] = c) := by
  have hl := tk_len s
  have hg : ∀ (i : Nat) (k : i < s.size), s[i]? = s.toList[i]? := by
    intro i k
    rw [ByteArray.toList_eq]
    simp [k]
    rfl
  have e : s.toList = s.toList := rfl
  generalize hx : s.toList = x at hl hg
  rcases x with _ | ⟨a, _ | ⟨b, _ | ⟨c, r⟩⟩⟩
  · simp at hl; omega
  · simp at hl; omega
  · simp at hl; omega
  · refine ⟨a, b, c, r, rfl, by simp at hl; omega, ?_, ?_, ?_⟩
    · intro k; simpa [k] using hg 0 k
    · intro k; simpa [k] using hg 1 k
    · intro k; simpa [k] using hg 2 k
theorem par_short {x : Bs} (h : x.length < 3) : parRes x = (Tk.zero, false) := by
  rcases x with _ | ⟨a, _ | ⟨b, _ | ⟨c, r⟩⟩⟩
  · rfl
  · rfl
  · rfl
  · simp at h; omega
theorem one_byte (a b : UInt8) : ((⟨#[a]⟩ : ByteArray).toList == [b]) = decide (a = b) := by
  rw [ByteArray.toList_eq]
  by_cases h : a = b
  · subst h; simp
  · simp [h]
theorem or_nat (b c : Nat) (h : c < 256) : (256 * b) ||| c = 256 * b + c := by
  have := Nat.shiftLeft_add_eq_or_of_lt (i := 8) (b := c) (by omega) b
  rw [Nat.shiftLeft_eq] at this
  rw [show 256 * b = b * 2 ^ 8 by omega, ← this]
theorem bits_or8 (b c : UInt8) : bits .or .i64 ((b.toNat : Int) * 256) (c.toNat : Int) = 256 * (b.toNat : Int) + (c.toNat : Int) := by
  have hb := b.toNat_lt
  have hc := c.toNat_lt
  have e1 : (BitVec.ofInt 64 ((b.toNat : Int) * 256)).toNat = 256 * b.toNat := by rw [BitVec.toNat_ofInt]; omega
  have e2 : (BitVec.ofInt 64 (c.toNat : Int)).toNat = c.toNat := by rw [BitVec.toNat_ofInt]; omega
  have e : (BitVec.ofInt 64 ((b.toNat : Int) * 256) ||| BitVec.ofInt 64 (c.toNat : Int)).toNat = 256 * b.toNat + c.toNat := by
    rw [BitVec.toNat_or, e1, e2, or_nat _ _ hc]
  show IntKind.i64.wrap ((BitVec.ofInt 64 ((b.toNat : Int) * 256) ||| BitVec.ofInt 64 (c.toNat : Int)).toNat : Int) = _
  rw [e, wrap_i64 _ (by omega) (by omega)]
  omega
theorem par_no (a b c : UInt8) (r : Bs) (h1 : ¬ a = 119) (h2 : ¬ a = 111) : parRes (a :: b :: c :: r) = (Tk.zero, false) := by
  show (if a = 119 ∨ a = 111 then _ else _) = _
  rw [if_neg (by rintro (h | h); exact h1 h; exact h2 h)]
theorem par_yes (a b c : UInt8) (r : Bs) (h : a = 119 ∨ a = 111) : parRes (a :: b :: c :: r) = (parV b c a r, parK r) := by
  show (if a = 119 ∨ a = 111 then _ else _) = _
  rw [if_pos h]
set_option maxRecDepth 100000 in
set_option maxHeartbeats 2000000 in
/-- bytes parsed -/
theorem tok_parse (s : ByteArray) (w : World) (hs : s.size ≤ 1000000) : Calls Try.prog 23 #[.string s] w fun e w' => e = .returned (.tuple #[tkVal (parRes s.toList).1, .bool (parRes s.toList).2]) ∧ Fr [] w w' := by
  go_enter Try.func23, Try.ntmps23
  by_cases h0 : s.size < 3
  · have HN : Hid (parRes s.toList = (Tk.zero, false)) := Lib.hid (par_short (by rw [tk_len]; omega))
    have e0 : decide ((s.size : Int) < 3) = true := by simpa using (by omega : (s.size : Int) < 3)
    go_wp2
    refine bodyPost_ret (v := .tuple #[.agg #[.string ⟨#[]⟩, .string ⟨#[]⟩, .int .i64 0, .bool false], .bool false]) (by simp [results, Try.results23, go_sem, *]) rfl ⟨by rw [HN.out]; rfl, (Fr.refl [] w).alloc _⟩
  · have e0 : decide ((s.size : Int) < 3) = false := by simpa using (by omega : ¬ (s.size : Int) < 3)
    obtain ⟨a, b, c, r, hl, hr, g0, g1, g2⟩ := bytes3 s h0
    have b1 : 1 < s.size := by omega
    have b2 : 2 < s.size := by omega
    have b0 : (1 : Int) ≤ s.size := by omega
    have b3 : (3 : Int) ≤ s.size := by omega
    have g1 := g1 b1
    have g2 := g2 b2
    have l1 := b.toNat_lt
    have l2 := c.toNat_lt
    have x1 : ((s.extract 0 1).toList == [119]) = decide (a = 119) := by rw [bs_take, hl]; show (([a] : Bs) == [119]) = _; by_cases h : a = 119 <;> simp [h]
    have x2 : ((s.extract 0 1).toList == [111]) = decide (a = 111) := by rw [bs_take, hl]; show (([a] : Bs) == [111]) = _; by_cases h : a = 111 <;> simp [h]
    have q1 : IntKind.i64.wrap (b.toNat : Int) = b.toNat := wrap_i64 _ (by omega) (by omega)
    have q2 : IntKind.i64.wrap (c.toNat : Int) = c.toNat := wrap_i64 _ (by omega) (by omega)
    by_cases hn : a = 119 ∨ a = 111
    · have HP : Hid (parRes s.toList = (parV b c a r, parK r)) := Lib.hid (by rw [hl]; exact par_yes a b c r hn)
      have d2 := bits_or8 b c
      have HEX : Hid (s.extract 3 s.size = tkBa r) := Lib.hid (by
        apply bs_inj
        rw [list_tkBa, ByteArray.toList_eq]
        have : s.data.toList = a :: b :: c :: r := by rw [← ByteArray.toList_eq]; exact hl
        simp only [ByteArray.data_extract, Array.toList_extract, List.extract_eq_take_drop, this, List.drop_succ_cons, List.drop_zero]
        rw [List.take_of_length_le (by omega)])
      have szr : (tkBa r).size ≤ 1000000 := by rw [size_tkBa]; omega
      have lr := list_tkBa r
      obtain ⟨o, ho⟩ : ∃ o, o = decide (a = 111) := ⟨_, rfl⟩
      have HO := Lib.hid ho
      have HF := Lib.hid ((Fr.refl [] w).alloc (.cells #[.string ⟨#[]⟩, .string ⟨#[]⟩, .int .i64 0, .bool false] 28))
      have HB := Lib.hid (new_block w (.cells #[.string ⟨#[]⟩, .string ⟨#[]⟩, .int .i64 0, .bool false] 28))
      have hy : ((s.extract 0 1).toList == [119]) = !o := by
        rw [x1, ho]
        rcases hn with h | h <;> subst h <;> decide
      have hz : ((s.extract 0 1).toList == [111]) = o := by rw [x2, ho]
      clear x1 x2 ho hl g0 hn
      rcases Bool.eq_false_or_eq_true o with h | h <;> subst h
      all_goals
        go_wp2_with fail
        go_quiet (fail)
        have HF1 := Lib.hid (HF.out.drewN nq)
        have HB1 := Lib.hid (((Fr.refl [] _).drewN nq).keep HB.out (by simp))
        clear HF HB d2 q1 q2
        generalize (w.alloc (.cells #[.string ⟨#[]⟩, .string ⟨#[]⟩, .int .i64 0, .bool false] 28)).drewN nq = w1 at *
        have hlt := lt_of_block HB1.out
        go_wp2_with (go_at_call 29; refine go_stop ?_)
        unfold Stop
        rw [HEX.out]
        refine (tok_counted (tkBa r) _ szr).mono ?_
        rintro e w2 ⟨rfl, h2⟩
        rw [lr]
        dsimp only
        have HF2 := Lib.hid (HF1.out.trans h2 (by simp))
        have HB2 := Lib.hid (h2.keep HB1.out (by simp))
        clear HF1 HB1 h2 hlt
        have sz2 : (tkBa (cntR r)).size ≤ 1000000 := (by have := (cntR_len r).1; rw [size_tkBa]; omega)
        have lr2 := list_tkBa (cntR r)
        go_wp2_with (go_at_call 29; refine go_stop ?_)
        unfold Stop
        refine (tok_counted (tkBa (cntR r)) _ sz2).mono ?_
        rintro e w3 ⟨rfl, h2⟩
        rw [lr2]
        dsimp only
        have HF3 := Lib.hid (HF2.out.trans h2 (by simp))
        have HB3 := Lib.hid (h2.keep HB2.out (by simp))
        clear HF2 HB2 h2
        obtain ⟨t0, t1, t2, t3, tf⟩ := cells4 HB3.out
        have tf0 := tf 0
        have tf1 := tf 1
        have tf2 := tf 2
        have tf3 := tf 3
        have hlt := lt_of_block HB3.out
        obtain ⟨k1, hk1⟩ : ∃ k, cntK r = k := ⟨_, rfl⟩
        obtain ⟨k2, hk2⟩ : ∃ k, cntK (cntR r) = k := ⟨_, rfl⟩
        obtain ⟨k3, hk3⟩ : ∃ k, ((tkBa (cntR (cntR r))).toList == []) = k := ⟨_, rfl⟩
        have HK : Hid (parK r = (k1 && k2 && k3)) := Lib.hid (by unfold parK; rw [hk1, hk2, ← hk3, list_tkBa]; cases cntR (cntR r) <;> rfl)
        rw [hk1, hk2]
        have HV : Hid (∀ o, o = decide (a = 111) → tkVal (parV b c a r) = .agg #[.string (tkBa (cntF r)), .string (tkBa (cntF (cntR r))), .int .i64 (256 * (b.toNat : Int) + (c.toNat : Int)), .bool o]) := Lib.hid (fun o ho => by rw [ho]; rfl)
        clear hk1 hk2
        cases k1
        · go_wp2
          first | (refine bodyPost_ret (v := .tuple #[.agg #[.string (tkBa (cntF r)), .string (tkBa (cntF (cntR r))), .int .i64 (256 * (b.toNat : Int) + (c.toNat : Int)), .bool true], .bool false]) (by simp [results, Try.results23, go_sem, *]) rfl ⟨?_, (HF3.out.set4 (Nat.le_refl _) _ _ _ _).alloc _⟩; rw [HP.out]; dsimp only; rw [HK.out, HV.out _ HO.out]; rfl) | (refine bodyPost_ret (v := .tuple #[.agg #[.string (tkBa (cntF r)), .string (tkBa (cntF (cntR r))), .int .i64 (256 * (b.toNat : Int) + (c.toNat : Int)), .bool false], .bool false]) (by simp [results, Try.results23, go_sem, *]) rfl ⟨?_, (HF3.out.set4 (Nat.le_refl _) _ _ _ _).alloc _⟩; rw [HP.out]; dsimp only; rw [HK.out, HV.out _ HO.out]; rfl)
        · cases k2
          · go_wp2
            first | (refine bodyPost_ret (v := .tuple #[.agg #[.string (tkBa (cntF r)), .string (tkBa (cntF (cntR r))), .int .i64 (256 * (b.toNat : Int) + (c.toNat : Int)), .bool true], .bool false]) (by simp [results, Try.results23, go_sem, *]) rfl ⟨?_, (HF3.out.set4 (Nat.le_refl _) _ _ _ _).alloc _⟩; rw [HP.out]; dsimp only; rw [HK.out, HV.out _ HO.out]; rfl) | (refine bodyPost_ret (v := .tuple #[.agg #[.string (tkBa (cntF r)), .string (tkBa (cntF (cntR r))), .int .i64 (256 * (b.toNat : Int) + (c.toNat : Int)), .bool false], .bool false]) (by simp [results, Try.results23, go_sem, *]) rfl ⟨?_, (HF3.out.set4 (Nat.le_refl _) _ _ _ _).alloc _⟩; rw [HP.out]; dsimp only; rw [HK.out, HV.out _ HO.out]; rfl)
          · go_wp2
            first | (refine bodyPost_ret (v := .tuple #[.agg #[.string (tkBa (cntF r)), .string (tkBa (cntF (cntR r))), .int .i64 (256 * (b.toNat : Int) + (c.toNat : Int)), .bool true], .bool k3]) (by simp [results, Try.results23, go_sem, *]) rfl ⟨?_, (HF3.out.set4 (Nat.le_refl _) _ _ _ _).alloc _⟩; rw [HP.out]; dsimp only; rw [HK.out, HV.out _ HO.out]; cases k3 <;> rfl) | (refine bodyPost_ret (v := .tuple #[.agg #[.string (tkBa (cntF r)), .string (tkBa (cntF (cntR r))), .int .i64 (256 * (b.toNat : Int) + (c.toNat : Int)), .bool false], .bool k3]) (by simp [results, Try.results23, go_sem, *]) rfl ⟨?_, (HF3.out.set4 (Nat.le_refl _) _ _ _ _).alloc _⟩; rw [HP.out]; dsimp only; rw [HK.out, HV.out _ HO.out]; cases k3 <;> rfl)
    · have h1 : ¬ a = 119 := fun h => hn (Or.inl h)
      have h2 : ¬ a = 111 := fun h => hn (Or.inr h)
      have HN : Hid (parRes s.toList = (Tk.zero, false)) := Lib.hid (by rw [hl]; exact par_no a b c r h1 h2)
      have y1 : ((s.extract 0 1).toList == [119]) = false := by rw [x1]; simpa using h1
      have y2 : ((s.extract 0 1).toList == [111]) = false := by rw [x2]; simpa using h2
      clear x1 x2 hl g0 hn
      go_wp2
      refine bodyPost_ret (v := .tuple #[.agg #[.string ⟨#[]⟩, .string ⟨#[]⟩, .int .i64 0, .bool false], .bool false]) (by simp [results, Try.results23, go_sem, *]) rfl ⟨by rw [HN.out]; rfl, (Fr.refl [] w).alloc _⟩
end Go.Proofs.Ytcaildjmpeefbaa
