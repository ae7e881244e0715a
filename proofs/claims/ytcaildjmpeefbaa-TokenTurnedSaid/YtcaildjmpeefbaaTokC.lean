/- PACKAGE token: what its small functions tell -/
import Derived.Test.YtcaildjmpeefbaaTkTake
import Derived.Test.YtcaildjmpeefbaaTkPar
import Derived.Test.YtcaildjmpeefbaaKeyMr
namespace Go.Proofs.Ytcaildjmpeefbaa
open Go.RowKit
set_option linter.unusedVariables false
set_option linter.unusedSimpArgs false

theorem tok_may (T : Tk) (w : World) (hf : T.f.size ≤ maxLen) (ht : T.t.size ≤ maxLen) : Calls Try.prog 10 #[tkVal T] w fun e w' => e = .returned (.bool (mayT T)) ∧ Fr [] w w' := by
  unfold tkVal
  have HF : Hid (Fr [] w (w.alloc (.cells #[.string T.f, .string T.t, .int .i64 T.next, .bool T.once] 28))) := Lib.hid ((Fr.refl [] w).alloc _)
  have HB := Lib.hid (new_block w (.cells #[.string T.f, .string T.t, .int .i64 T.next, .bool T.once] 28))
  go_enter Try.func10, Try.ntmps10
  go_wp2_with (go_at_call 17; refine (key_mayrange T.f T.t _ hf ht).mono ?_; rintro e w1 ⟨rfl, h1⟩; refine go_stop ?_)
  unfold Stop
  have HZ := Lib.hid (HF.out.trans h1 (by simp))
  obtain ⟨d0, d1, d2, d3, _⟩ := cells4 (h1.keep HB.out (by simp))
  have HE : Hid (mayT T = (mayRangeB T.f.toList T.t.toList && decide (1 ≤ T.next) && decide (T.next ≤ 1001))) := Lib.hid rfl
  clear h1
  cases hb : mayRangeB T.f.toList T.t.toList
  · have HN : Hid (mayT T = false) := Lib.hid (by rw [HE.out, hb]; rfl)
    clear hb
    go_wp2
    go_ret
    exact ⟨by rw [HN.out]; rfl, HZ.out⟩
  · by_cases h1 : 1 ≤ T.next
    · have t1 : decide (1 ≤ T.next) = true := by simpa using h1
      have HN : Hid (mayT T = decide (T.next ≤ 1001)) := Lib.hid (by rw [HE.out, hb, t1]; rfl)
      clear hb h1
      go_wp2
      go_ret
      exact ⟨by rw [HN.out]; rfl, HZ.out⟩
    · have t1 : decide (1 ≤ T.next) = false := by simpa using h1
      have HN : Hid (mayT T = false) := Lib.hid (by rw [HE.out, hb, t1]; rfl)
      clear hb h1
      go_wp2
      go_ret
      exact ⟨by rw [HN.out]; rfl, HZ.out⟩
/-- the first byte -/
theorem tok_kind (o : Bool) (w : World) : Calls Try.prog 20 #[.bool o] w fun e w' => e = .returned (.string ⟨#[tkKind o]⟩) ∧ w = w' := by
  go_enter Try.func20, Try.ntmps20
  cases o
  · go_wp2
    go_ret
    exact ⟨rfl, rfl⟩
  · go_wp2
    go_ret
    exact ⟨rfl, rfl⟩
theorem low_wrap (n : Nat) : IntKind.u8.wrap (n : Int) = ((tkLow n).toNat : Int) := by
  rw [tkLow_nat]
  simp [IntKind.wrap, IntKind.signed, IntKind.bits]
/-- a number modulo 256, as a text -/
theorem tok_count (s : ByteArray) (w : World) (hs : s.size ≤ 1000000) : Calls Try.prog 21 #[.string s] w fun e w' => e = .returned (.string ⟨#[tkLow s.size]⟩) ∧ w' = w.alloc (.cells #[.int .u8 (tkLow s.size).toNat] 5) := by
  have cv := conv_bytes w w.heap.size rfl [tkLow s.size]
  simp only [List.length_cons, List.length_nil, List.map_cons, List.map_nil, Nat.zero_add] at cv
  have lw := low_wrap s.size
  have lw2 : (s.size : Int) % 256 = ((tkLow s.size).toNat : Int) := by rw [tkLow_nat]; omega
  go_enter Try.func21, Try.ntmps21
  go_wp2
  go_ret
  exact ⟨rfl, rfl⟩
theorem at0 (s : ByteArray) {a : UInt8} {l : Bs} (h : s.toList = a :: l) : ∃ k : 0 < s.size, s[0] = a := by
  have hl := tk_len s
  rw [h] at hl
  have k : 0 < s.size := by rw [← hl]; simp
  have hg : s[0]? = s.toList[0]? := by
    rw [ByteArray.toList_eq]
    simp [k]
    rfl
  rw [h] at hg
  exact ⟨k, by simpa [k] using hg⟩
theorem drop_take_1 (d : UInt8) (r : Bs) (n : Nat) : ((d :: r).drop 1).take (1 + n - 1) = r.take n := by
  rw [show 1 + n - 1 = n by omega]; rfl
theorem drop_1 (d : UInt8) (r : Bs) (n : Nat) : (d :: r).drop (1 + n) = r.drop n := by
  rw [show 1 + n = n + 1 by omega]; rfl
/-- what a number stands ahead of -/
theorem tok_counted (s : ByteArray) (w : World) (hs : s.size ≤ 1000000) : Calls Try.prog 29 #[.string s] w fun e w' => e = .returned (.tuple #[.string (tkBa (cntF s.toList)), .string (tkBa (cntR s.toList)), .bool (cntK s.toList)]) ∧ Fr [] w w' := by
  go_enter Try.func29, Try.ntmps29
  have hl := tk_len s
  generalize hx : s.toList = x at hl
  cases x with
  | nil =>
    have HN : Hid (cntF ([] : Bs) = [] ∧ cntR ([] : Bs) = [] ∧ cntK ([] : Bs) = false) := Lib.hid ⟨rfl, rfl, rfl⟩
    go_wp2
    refine bodyPost_ret (v := .tuple #[.string ⟨#[]⟩, .string ⟨#[]⟩, .bool false]) (by simp [results, Try.results29, go_sem, *]) rfl ⟨rfl, Fr.refl [] w⟩
  | cons d r =>
    have hd := d.toNat_lt
    have hz : s.size = r.length + 1 := by rw [← hl]; rfl
    obtain ⟨k0, g0⟩ := at0 s hx
    have q1 : IntKind.i64.wrap (d.toNat : Int) = d.toNat := wrap_i64 _ (by omega) (by omega)
    have q2 : IntKind.i64.wrap ((s.size : Int) - 1) = (s.size : Int) - 1 := wrap_i64 _ (by omega) (by omega)
    have q3 : IntKind.i64.wrap (1 + (d.toNat : Int)) = 1 + (d.toNat : Int) := wrap_i64 _ (by omega) (by omega)
    have e1 : (s.toList == []) = false := by rw [hx]; rfl
    by_cases hk : d.toNat ≤ r.length
    · have HN : Hid (cntF (d :: r) = r.take d.toNat ∧ cntR (d :: r) = r.drop d.toNat ∧ cntK (d :: r) = true) := Lib.hid (by unfold cntF cntR cntK; rw [cnt_cons, if_pos hk]; exact ⟨rfl, rfl, rfl⟩)
      have t1 : decide ((s.size : Int) - 1 < (d.toNat : Int)) = false := (by simp; omega)
      have sl1 := run_slice_str (P := Try.prog) 9 s Try.underlying9 1 (1 + d.toNat) (by omega) (by omega)
      have sl2 := run_slice_str_l (P := Try.prog) 9 s Try.underlying9 (1 + d.toNat) (by omega)
      rw [hx, drop_take_1] at sl1
      rw [hx, drop_1] at sl2
      simp only [Int.natCast_add, Int.natCast_one] at sl1 sl2
      rw [HN.out.1, HN.out.2.1, HN.out.2.2]
      clear hl hz hx HN
      go_wp2_with fail
      go_quiet (fail)
      go_wp2
      refine bodyPost_ret (v := .tuple #[.string (tkBa (r.take d.toNat)), .string (tkBa (r.drop d.toNat)), .bool true]) (by simp [results, Try.results29, go_sem, *]) rfl ⟨rfl, (Fr.refl [] w).drewN _⟩
    · have HN : Hid (cntF (d :: r) = [] ∧ cntR (d :: r) = [] ∧ cntK (d :: r) = false) := Lib.hid (by unfold cntF cntR cntK; rw [cnt_cons, if_neg hk]; exact ⟨rfl, rfl, rfl⟩)
      have t1 : decide ((s.size : Int) - 1 < (d.toNat : Int)) = true := (by simp; omega)
      rw [HN.out.1, HN.out.2.1, HN.out.2.2]
      clear hl hz hx HN
      go_wp2
      refine bodyPost_ret (v := .tuple #[.string ⟨#[]⟩, .string ⟨#[]⟩, .bool false]) (by simp [results, Try.results29, go_sem, *]) rfl ⟨rfl, Fr.refl [] w⟩
end Go.Proofs.Ytcaildjmpeefbaa
