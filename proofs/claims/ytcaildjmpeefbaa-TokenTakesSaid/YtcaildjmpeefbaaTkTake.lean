/- THE DOCUMENT's Take (impostref09): contract -/
import Derived.Test.YtcaildjmpeefbaaTkRef
namespace Go.Proofs.Ytcaildjmpeefbaa
open Go.RowKit
set_option linter.unusedVariables false
set_option linter.unusedSimpArgs false

/-- what Take tells -/
def tkVal (T : Tk) : Value := .agg #[.string T.f, .string T.t, .int .i64 T.next, .bool T.once]
def takeV : Option Tk → Value
  | some T => .tuple #[tkVal T, .int .i64 0]
  | none => .tuple #[tkVal Tk.zero, .int .i64 2]
theorem share9 {Q P : Prop} (h : Q) (f : Q → P) : P := f h
theorem wrap_i64 (x : Int) (h : 0 ≤ x) (k : x < 9223372036854775808) : IntKind.i64.wrap x = x := by
  simp only [IntKind.wrap, IntKind.signed, IntKind.bits]
  simp
  omega
/-- five bytes and more, one by one -/
theorem bytes5 (s : ByteArray) (h : ¬ s.size < 5) : ∃ (a b c d : UInt8) (r : Bs), s.toList = a :: b :: c :: d :: r ∧ r.length + 4 = s.size ∧ (∀ k : 0 < s.size, s[0] = a) ∧ (∀ k : 1 < s.size, s[1] = b) ∧ (∀ k : 2 < s.size, s[2] = c) ∧ (∀ k : 3 < s.size, s[3] = d) := by
  have hl := tk_len s
  have hg : ∀ (i : Nat) (k : i < s.size), s[i]? = s.toList[i]? := by
    intro i k
    rw [ByteArray.toList_eq]
    simp [k]
    rfl
  have e : s.toList = s.toList := rfl
  generalize hx : s.toList = x at hl hg
  rcases x with _ | ⟨a, _ | ⟨b, _ | ⟨c, _ | ⟨d, r⟩⟩⟩⟩
  · simp at hl; omega
  · simp at hl; omega
  · simp at hl; omega
  · simp at hl; omega
  · refine ⟨a, b, c, d, r, rfl, by simp at hl; omega, ?_, ?_, ?_, ?_⟩
    · intro k; simpa [k] using hg 0 k
    · intro k; simpa [k] using hg 1 k
    · intro k; simpa [k] using hg 2 k
    · intro k; simpa [k] using hg 3 k
/-- a string's part between two bounds -/
theorem run_slice_str {P : Program} (t : TypeId) (s : ByteArray) (ht : P.underlying t = some .string) (l h : Nat) (h1 : l ≤ h) (h2 : h ≤ s.size) (w : World) : (Instr.slice t (.string s) (some (.int .i64 l)) (some (.int .i64 h)) none).run P w = .ok (.string (tkBa ((s.toList.drop l).take (h - l)))) w := by
  have e : s.extract l h = tkBa ((s.toList.drop l).take (h - l)) := by
    apply bs_inj
    rw [list_tkBa, ByteArray.toList_eq, ByteArray.toList_eq]
    simp
  have a1 : (0 : Int) ≤ l := by omega
  have a2 : (l : Int) ≤ h := by omega
  have a3 : (h : Int) ≤ s.size := by omega
  have a4 : (0 : Int) ≤ h := by omega
  rw [← e]
  simp [Instr.slice, run_underlying ht, Instr.sliceBounds, a1, a2, a3, a4, h1, h2, go_sem]
theorem run_slice_str_l {P : Program} (t : TypeId) (s : ByteArray) (ht : P.underlying t = some .string) (l : Nat) (h1 : l ≤ s.size) (w : World) : (Instr.slice t (.string s) (some (.int .i64 l)) none none).run P w = .ok (.string (tkBa (s.toList.drop l))) w := by
  have e : s.extract l s.size = tkBa (s.toList.drop l) := by
    apply bs_inj
    rw [list_tkBa, ByteArray.toList_eq, ByteArray.toList_eq]
    simp
    rw [List.take_of_length_le]
    simp
  have := run_slice_string_l (P := P) w t s ht .i64 l (by omega) (by omega)
  rw [this]
  simp [e]
theorem parse_no {x r : Bs} {a b c d : UInt8} (hl : x = a :: b :: c :: d :: r) (h : ¬ d.toNat < r.length) : takeT x = none := by
  subst hl
  have hp : parseT (a :: b :: c :: d :: r) = none := by
    show (if d.toNat < r.length then _ else none) = none
    rw [if_neg h]
  unfold takeT
  rw [hp]
theorem parse_yes {x r : Bs} {a b c d : UInt8} (hl : x = a :: b :: c :: d :: r) (h : d.toNat < r.length) : parseT x = some ⟨tkBa (r.take d.toNat), tkBa (r.drop (d.toNat + 1)), 256 * b.toNat + c.toNat, decide (a = 111)⟩ := by
  subst hl
  show (if d.toNat < r.length then _ else none) = _
  rw [if_pos h]
theorem take_short {x : Bs} (h : x.length < 5) : takeT x = none := by
  rcases x with _ | ⟨a, _ | ⟨b, _ | ⟨c, _ | ⟨d, r⟩⟩⟩⟩
  · rfl
  · rfl
  · rfl
  · rfl
  · exact parse_no rfl (by simp at h; omega)
set_option maxRecDepth 100000 in
set_option maxHeartbeats 2000000 in
theorem rtk_take (s : ByteArray) (w : World) (hs : s.size ≤ 1000000) : Calls Try.prog 16 #[.string s] w fun e w' => e = .returned (takeV (takeT s.toList)) ∧ Fr [] w w' := by
  go_enter Try.func16, Try.ntmps16
  by_cases h0 : s.size < 5
  · have HN : Hid (takeV (takeT s.toList) = .tuple #[.agg #[.string ⟨#[]⟩, .string ⟨#[]⟩, .int .i64 0, .bool false], .int .i64 2]) := Lib.hid (by rw [take_short (by rw [tk_len]; omega)]; rfl)
    have e0 : decide ((s.size : Int) < 5) = true := by simpa using (by omega : (s.size : Int) < 5)
    have HB := Lib.hid (new_block w (.cells #[.string ⟨#[]⟩, .string ⟨#[]⟩, .int .i64 0, .bool false] 25))
    obtain ⟨t0, t1, t2, t3, _⟩ := cells4 HB.out
    go_wp2
    refine bodyPost_ret (v := .tuple #[.agg #[.string ⟨#[]⟩, .string ⟨#[]⟩, .int .i64 0, .bool false], .int .i64 2]) (by simp [results, Try.results16, go_sem, *]) rfl ⟨by rw [HN.out], (Fr.refl [] w).alloc _⟩
  · have e0 : decide ((s.size : Int) < 5) = false := by simpa using (by omega : ¬ (s.size : Int) < 5)
    have b3 : 3 < s.size := by omega
    have b1 : 1 < s.size := by omega
    have b2 : 2 < s.size := by omega
    have b0 : 0 < s.size := by omega
    obtain ⟨a, b, c, d, r, hl, hr, g0, g1, g2, g3⟩ := bytes5 s h0
    have g0 := g0 b0
    have g1 := g1 b1
    have g2 := g2 b2
    have g3 := g3 b3
    have l1 := b.toNat_lt
    have l2 := c.toNat_lt
    have l3 := d.toNat_lt
    have q1 : IntKind.i64.wrap (b.toNat : Int) = b.toNat := wrap_i64 _ (by omega) (by omega)
    have q2 : IntKind.i64.wrap (c.toNat : Int) = c.toNat := wrap_i64 _ (by omega) (by omega)
    have q3 : IntKind.i64.wrap (d.toNat : Int) = d.toNat := wrap_i64 _ (by omega) (by omega)
    have q4 : IntKind.i64.wrap (256 * (b.toNat : Int)) = 256 * b.toNat := wrap_i64 _ (by omega) (by omega)
    have q5 : IntKind.i64.wrap (256 * (b.toNat : Int) + c.toNat) = 256 * b.toNat + c.toNat := wrap_i64 _ (by omega) (by omega)
    have q6 : IntKind.i64.wrap (5 + (d.toNat : Int)) = 5 + d.toNat := wrap_i64 _ (by omega) (by omega)
    have q7 : ((a.toNat : Int) == 111) = decide (a = 111) := by
      rw [eq_comm, Bool.eq_iff_iff]
      simp [← UInt8.toNat_inj]
      omega
    have HB := Lib.hid (new_block w (.cells #[.string ⟨#[]⟩, .string ⟨#[]⟩, .int .i64 0, .bool false] 25))
    obtain ⟨t0, t1, t2, t3, _⟩ := cells4 HB.out
    by_cases h1 : (s.size : Int) < 5 + (d.toNat : Int)
    · have e1 : decide ((s.size : Int) < 5 + (d.toNat : Int)) = true := by simpa using h1
      have HN : Hid (takeV (takeT s.toList) = .tuple #[.agg #[.string ⟨#[]⟩, .string ⟨#[]⟩, .int .i64 0, .bool false], .int .i64 2]) := Lib.hid (by rw [parse_no hl (by omega)]; rfl)
      clear h1
      go_wp2
      refine bodyPost_ret (v := .tuple #[.agg #[.string ⟨#[]⟩, .string ⟨#[]⟩, .int .i64 0, .bool false], .int .i64 2]) (by simp [results, Try.results16, go_sem, *]) rfl ⟨by rw [HN.out], (Fr.refl [] w).alloc _⟩
    · have e1 : decide ((s.size : Int) < 5 + (d.toNat : Int)) = false := by simpa using h1
      obtain ⟨T, hT⟩ : ∃ T : Tk, T = ⟨tkBa (r.take d.toNat), tkBa (r.drop (d.toNat + 1)), 256 * b.toNat + c.toNat, decide (a = 111)⟩ := ⟨_, rfl⟩
      have HP : Hid (parseT s.toList = some T) := Lib.hid (by rw [hT]; exact parse_yes hl (by omega))
      have hk : d.toNat < r.length := by omega
      have hfs : T.f.size ≤ 1000000 := by rw [← tk_len, hT, list_tkBa, List.length_take]; omega
      have hts : T.t.size ≤ 1000000 := by rw [← tk_len, hT, list_tkBa, List.length_drop]; omega
      have hwf : (Lit.int .i64 T.next).wf = true := by rw [hT]; simp [Lit.wf, IntKind.has, IntKind.min, IntKind.max, IntKind.signed, IntKind.bits]; omega
      clear h1
      go_wp2
      have c1 : (1 : Int) < s.size := by omega
      have c2 : (2 : Int) < s.size := by omega
      have c0 : (0 : Int) < s.size := by omega
      have HSL : Hid (∀ X : World, (Instr.slice 9 (.string s) (some (.int .i64 4)) (some (.int .i64 (4 + (d.toNat : Int)))) none).run Try.prog X = .ok (.string T.f) X) := Lib.hid (by
        intro X
        have := run_slice_str (P := Try.prog) 9 s rfl 4 (4 + d.toNat) (by omega) (by omega) X
        rw [show T.f = tkBa ((s.toList.drop 4).take (4 + d.toNat - 4)) by rw [hT, hl]; simp]
        exact_mod_cast this)
      have HSM : Hid (∀ X : World, (Instr.slice 9 (.string s) (some (.int .i64 (5 + (d.toNat : Int)))) none none).run Try.prog X = .ok (.string T.t) X) := Lib.hid (by
        intro X
        have := run_slice_str_l (P := Try.prog) 9 s rfl (5 + d.toNat) (by omega) X
        rw [show T.t = tkBa (s.toList.drop (5 + d.toNat)) by rw [hT, hl, show 5 + d.toNat = (d.toNat + 1) + 4 by omega]; simp]
        exact_mod_cast this)
      refine share9 (Q := ?goal9) ?arm9 (fun H => ?body9)
      case body9 =>
        go_region_held3 (fun w' => True) (go_keep) (fail)
        all_goals exact H
      clear c0 c1 c2 b0 b1 b2 b3 g0 g1 g2 g3
      have q8 : IntKind.i64.wrap (4 + (d.toNat : Int)) = 4 + d.toNat := wrap_i64 _ (by omega) (by omega)
      have hn : T.next = 256 * b.toNat + c.toNat := by rw [hT]
      have ho : T.once = decide (a = 111) := by rw [hT]
      rw [← hn, ← ho]
      clear hn ho hT
      have HF1 : Hid (Fr [] w (w.alloc (.cells #[.string ⟨#[]⟩, .string ⟨#[]⟩, .int .i64 0, .bool false] 25))) := Lib.hid ((Fr.refl [] w).alloc _)
      clear t0 t1 t2 t3
      have HX : Hid ((w.alloc (.cells #[.string ⟨#[]⟩, .string ⟨#[]⟩, .int .i64 0, .bool false] 25)).heap.size = w.heap.size + 1) := Lib.hid (by simp)
      generalize (w.alloc (.cells #[.string ⟨#[]⟩, .string ⟨#[]⟩, .int .i64 0, .bool false] 25)) = wA at *
      have HB2 := Lib.hid ((Fr.refl [] _).drew.keep (new_block wA (.cells #[.string ⟨#[]⟩, .string ⟨#[]⟩, .int .i64 T.next, .bool T.once] 25)) (by simp))
      rw [HX.out] at HB2
      have hb1 := (((Fr.refl [] _).alloc (.cells #[.string ⟨#[]⟩, .string ⟨#[]⟩, .int .i64 T.next, .bool T.once] 25)).drew).keep HB.out (by simp)
      have HF2 := Lib.hid ((HF1.out.alloc (.cells #[.string ⟨#[]⟩, .string ⟨#[]⟩, .int .i64 T.next, .bool T.once] 25)).drew)
      clear HB
      have HB := Lib.hid hb1
      clear hb1
      generalize (wA.alloc (.cells #[.string ⟨#[]⟩, .string ⟨#[]⟩, .int .i64 T.next, .bool T.once] 25)).drew = wB at *
      clear HF1 HX
      have sl1 := HSL.out
      have sl2 := HSM.out
      obtain ⟨u0, u1, u2, u3, ufr⟩ := cells4 HB2.out
      obtain ⟨t0, t1, t2, t3, tfr⟩ := cells4 HB.out
      have uf0 := ufr 0
      have uf1 := ufr 1
      have HM : Hid (mayT T = mayT T) := Lib.hid rfl
      go_wp2_with (go_at_call 12; refine go_stop ?_)
      unfold Stop
      have HF3 := Lib.hid (HF2.out.set2 (b := w.heap.size + 1) (by omega) (.string T.f) (.string T.t))
      have hb1 := set_other (set_other HB.out (q := w.heap.size + 1) (by omega) 0 (.string T.f)) (q := w.heap.size + 1) (by omega) 1 (.string T.t)
      have x0 := cs_other ⟨w.heap.size + 1, 1, none⟩ (.string T.t) (cs_same (.string T.f) u0) (by simp)
      have x1 := cs_same (.string T.t) (cs_other ⟨w.heap.size + 1, 0, none⟩ (.string T.f) u1 (by simp))
      have x2 := cs_other ⟨w.heap.size + 1, 1, none⟩ (.string T.t) (cs_other ⟨w.heap.size + 1, 0, none⟩ (.string T.f) u2 (by simp)) (by simp)
      have x3 := cs_other ⟨w.heap.size + 1, 1, none⟩ (.string T.t) (cs_other ⟨w.heap.size + 1, 0, none⟩ (.string T.f) u3 (by simp)) (by simp)
      generalize (wB.setCell ⟨w.heap.size + 1, 0, none⟩ (.string T.f)).setCell ⟨w.heap.size + 1, 1, none⟩ (.string T.t) = wC at *
      refine (rtk_may T wC (by unfold maxLen; omega) (by unfold maxLen; omega)).mono ?_
      rintro e w1 ⟨rfl, hw1⟩
      dsimp only
      have y0 := hw1.cell x0 (by simp)
      have y1 := hw1.cell x1 (by simp)
      have y2 := hw1.cell x2 (by simp)
      have y3 := hw1.cell x3 (by simp)
      have HB1 := Lib.hid (hw1.keep hb1 (by simp))
      have HF4 := Lib.hid (HF3.out.trans hw1 (by simp))
      clear x0 x1 x2 x3 hb1 hw1 HF3 HB u0 u1 u2 u3 ufr t0 t1 t2 t3 tfr uf0 uf1 HB2 HF2 sl1 sl2
      obtain ⟨t0, t1, t2, t3, tfr⟩ := cells4 HB1.out
      have HTK : Hid (takeT s.toList = if mayT T && decide (putT T = s.toList) then some T else none) := Lib.hid (by unfold takeT; rw [HP.out])
      by_cases hm : mayT T = true
      · have HTK2 : Hid (takeT s.toList = if decide (putT T = s.toList) then some T else none) := Lib.hid (by rw [HTK.out, hm]; rfl)
        rw [hm]
        go_wp2_with (go_at_call 14; refine go_stop ?_)
        unfold Stop
        refine (rtk_put T _ hfs hts hwf).mono ?_
        rintro e w2 ⟨rfl, hw2⟩
        dsimp only
        have z0 := hw2.cell y0 (by simp)
        have z1 := hw2.cell y1 (by simp)
        have z2 := hw2.cell y2 (by simp)
        have z3 := hw2.cell y3 (by simp)
        have HB2 := Lib.hid (hw2.keep HB1.out (by simp))
        have HF5 := Lib.hid (HF4.out.trans hw2 (by simp))
        clear y0 y1 y2 y3 t0 t1 t2 t3 tfr HB1 HF4 hw2
        obtain ⟨t0, t1, t2, t3, tfr⟩ := cells4 HB2.out
        have tf0 := tfr 0
        have tf1 := tfr 1
        have tf2 := tfr 2
        have tf3 := tfr 3
        by_cases he : putT T = s.toList
        · have HN : Hid (takeV (takeT s.toList) = .tuple #[.agg #[.string T.f, .string T.t, .int .i64 T.next, .bool T.once], .int .i64 0]) := Lib.hid (by rw [HTK2.out, he]; simp [takeV, tkVal])
          rw [he, tkBa_list]
          go_wp2
          refine bodyPost_ret (v := .tuple #[.agg #[.string T.f, .string T.t, .int .i64 T.next, .bool T.once], .int .i64 0]) (by simp [results, Try.results16, go_sem, *]) rfl ⟨by rw [HN.out], HF5.out.set4 (Nat.le_refl _) _ _ _ _⟩
        · have HN : Hid (takeV (takeT s.toList) = .tuple #[.agg #[.string ⟨#[]⟩, .string ⟨#[]⟩, .int .i64 0, .bool false], .int .i64 2]) := Lib.hid (by rw [HTK2.out]; simp [he, takeV, tkVal, Tk.zero])
          have hne : ¬ tkBa (putT T) = s := by intro h; exact he (by rw [← h, list_tkBa])
          generalize tkBa (putT T) = p at *
          have n1 : (p.toList == s.toList) = false := by
            rw [beq_eq_false_iff_ne]
            exact fun h => hne (bs_inj h)
          clear hl
          go_wp2
          refine bodyPost_ret (v := .tuple #[.agg #[.string ⟨#[]⟩, .string ⟨#[]⟩, .int .i64 0, .bool false], .int .i64 2]) (by simp [results, Try.results16, go_sem, *]) rfl ⟨by rw [HN.out], HF5.out.set4 (Nat.le_refl _) _ _ _ _⟩
      · have hm : mayT T = false := by simpa using hm
        have HN : Hid (takeV (takeT s.toList) = .tuple #[.agg #[.string ⟨#[]⟩, .string ⟨#[]⟩, .int .i64 0, .bool false], .int .i64 2]) := Lib.hid (by rw [HTK.out, hm]; rfl)
        rw [hm]
        have tf0 := tfr 0
        have tf1 := tfr 1
        have tf2 := tfr 2
        have tf3 := tfr 3
        go_wp2
        refine bodyPost_ret (v := .tuple #[.agg #[.string ⟨#[]⟩, .string ⟨#[]⟩, .int .i64 0, .bool false], .int .i64 2]) (by simp [results, Try.results16, go_sem, *]) rfl ⟨by rw [HN.out], HF4.out.set4 (Nat.le_refl _) _ _ _ _⟩
end Go.Proofs.Ytcaildjmpeefbaa
