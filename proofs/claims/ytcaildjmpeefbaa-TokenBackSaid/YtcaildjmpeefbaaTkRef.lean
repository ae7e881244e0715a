/- THE DOCUMENT's ANSWERS FOR token (impostref09): contracts -/
import Derived.Test.YtcaildjmpeefbaaTk
import Derived.Test.YtcaildjmpeefbaaKeyRef
import Derived.Test.YtcaildjmpeefbaaAfter
import Derived.Deep.DeepCutAuto
import Derived.Laws.IdiomStrings
import Derived.Deep.RegionHeldLaw
namespace Go.Proofs.Ytcaildjmpeefbaa
open Go.RowKit
set_option linter.unusedVariables false
set_option linter.unusedSimpArgs false

theorem rtk_may (T : Tk) (w : World) (hf : T.f.size ≤ maxLen) (ht : T.t.size ≤ maxLen) : Calls Try.prog 12 #[.agg #[.string T.f, .string T.t, .int .i64 T.next, .bool T.once]] w fun e w' => e = .returned (.bool (mayT T)) ∧ Fr [] w w' := by
  have HF : Hid (Fr [] w (w.alloc (.cells #[.string T.f, .string T.t, .int .i64 T.next, .bool T.once] 25))) := Lib.hid ((Fr.refl [] w).alloc _)
  have HB := Lib.hid (new_block w (.cells #[.string T.f, .string T.t, .int .i64 T.next, .bool T.once] 25))
  go_enter Try.func12, Try.ntmps12
  go_wp2_with (go_at_call 18; refine (rmayrange_any T.f T.t _ hf ht).mono ?_; rintro e w1 ⟨rfl, h1⟩; refine go_stop ?_)
  unfold Stop
  have HZ := Lib.hid (HF.out.trans h1 (by simp))
  obtain ⟨d0, d1, d2, d3, _⟩ := cells4 (h1.keep HB.out (by simp))
  have HE : Hid (mayT T = (mayRangeB T.f.toList T.t.toList && decide (1 ≤ T.next) && decide (T.next ≤ 1001))) := Lib.hid rfl
  clear h1
  cases hb : mayRangeB T.f.toList T.t.toList
  · have HN : Hid (mayT T = false) := Lib.hid (by rw [HE.out, hb]; rfl)
    clear hb
    go_wp2
    go_ret
    exact ⟨by rw [HN.out]; rfl, HZ.out⟩
  · by_cases h1 : 1 ≤ T.next
    · have t1 : decide (1 ≤ T.next) = true := by simpa using h1
      have HN : Hid (mayT T = decide (T.next ≤ 1001)) := Lib.hid (by rw [HE.out, hb, t1]; rfl)
      clear hb h1
      go_wp2
      go_ret
      exact ⟨by rw [HN.out]; rfl, HZ.out⟩
    · have t1 : decide (1 ≤ T.next) = false := by simpa using h1
      have HN : Hid (mayT T = false) := Lib.hid (by rw [HE.out, hb, t1]; rfl)
      clear hb h1
      go_wp2
      go_ret
      exact ⟨by rw [HN.out]; rfl, HZ.out⟩
/-- a number modulo 256 -/
theorem rtk_low (n : Nat) (w : World) (hn : n ≤ maxLen) : Calls Try.prog 22 #[.int .i64 n] w fun e w' => e = .returned (.int .u8 (tkLow n).toNat) ∧ w = w' := by
  unfold maxLen at hn
  have HE : Hid (((tkLow n).toNat : Int) = (n : Int) % 256) := Lib.hid (by rw [tkLow_nat]; omega)
  go_enter Try.func22, Try.ntmps22
  go_wp2
  go_ret
  exact ⟨by rw [HE.out]; rfl, rfl⟩
theorem u64_wrap (x : Int) : IntKind.u64.wrap x = x % 18446744073709551616 := by simp [IntKind.wrap, IntKind.signed, IntKind.bits]
theorem hi_eq (x : Int) : IntKind.u64.wrap (((IntKind.u64.wrap x).tmod 65536).tdiv 256) % 256 = ((tkHi x).toNat : Int) := by
  unfold tkHi
  rw [tkLow_nat, u64_wrap, u64_wrap, Int.tmod_eq_emod_of_nonneg (by omega), Int.tdiv_eq_ediv_of_nonneg (by omega)]
  omega
theorem lo_eq (x : Int) : (IntKind.u64.wrap x).tmod 256 % 256 = ((tkLo x).toNat : Int) := by
  unfold tkLo
  rw [tkLow_nat, u64_wrap, Int.tmod_eq_emod_of_nonneg (by omega)]
  omega
/-- bytes that were just laid, as a string -/
theorem conv_bytes (W : World) (B : Nat) (hB : W.heap.size = B) (l : List UInt8) : (convert 39 9 (.slice (some ⟨B, 0, none⟩) l.length l.length)).run Try.prog (W.alloc (.cells (l.map (fun u => Value.int .u8 (u.toNat : Int))).toArray 5)) = .ok (.string ⟨l.toArray⟩) (W.alloc (.cells (l.map (fun u => Value.int .u8 (u.toNat : Int))).toArray 5)) := by
  subst hB
  refine run_convert_bytes_back _ 39 9 5 ⟨W.heap.size, 0, none⟩ l.length l rfl rfl rfl ?_
  intro j hj
  rw [Addr.add_lit, cell_block (new_block W _)]
  simp [hj]
theorem conv_bytesD (W : World) (B : Nat) (hB : W.heap.size = B) (l : List UInt8) : (convert 39 9 (.slice (some ⟨B, 0, none⟩) l.length l.length)).run Try.prog (W.alloc (.cells (l.map (fun u => Value.int .u8 (u.toNat : Int))).toArray 5)).drew = .ok (.string ⟨l.toArray⟩) (W.alloc (.cells (l.map (fun u => Value.int .u8 (u.toNat : Int))).toArray 5)).drew := by
  subst hB
  refine run_convert_bytes_back _ 39 9 5 ⟨W.heap.size, 0, none⟩ l.length l rfl rfl rfl ?_
  intro j hj
  rw [Addr.add_lit]
  show World.cell? (W.alloc _) _ = _
  rw [cell_block (new_block W _)]
  simp [hj]
theorem add_str (a b : ByteArray) (h : a.size + b.size ≤ 9223372036854775807) (w : World) : (binOp .add 9 (.string a) (.string b)).run Try.prog w = .ok (.string (a ++ b)) w := by
  have hn : ¬ (9223372036854775807 < a.size + b.size) := by omega
  simp [go_sem, hn]
theorem cat_list (a b : ByteArray) : (a ++ b).toList = a.toList ++ b.toList := by rw [ByteArray.toList_eq, ByteArray.toList_eq, ByteArray.toList_eq, ByteArray.data_append]; simp
set_option maxRecDepth 100000 in
set_option maxHeartbeats 2000000 in
theorem rtk_put (T : Tk) (w : World) (hf : T.f.size ≤ 1000000) (ht : T.t.size ≤ 1000000) (hw : (Lit.int .i64 T.next).wf = true) : Calls Try.prog 14 #[.agg #[.string T.f, .string T.t, .int .i64 T.next, .bool T.once]] w fun e w' => e = .returned (.string (tkBa (putT T))) ∧ Fr [] w w' := by
  have hn : -9223372036854775808 ≤ T.next ∧ T.next ≤ 9223372036854775807 := by simp [Lit.wf, IntKind.has, IntKind.min, IntKind.max, IntKind.signed, IntKind.bits] at hw; omega
  have HF : Hid (Fr [] w (w.alloc (.cells #[.string T.f, .string T.t, .int .i64 T.next, .bool T.once] 25))) := Lib.hid ((Fr.refl [] w).alloc _)
  have HB := Lib.hid (new_block w (.cells #[.string T.f, .string T.t, .int .i64 T.next, .bool T.once] 25))
  obtain ⟨o, ho⟩ : ∃ o, T.once = o := ⟨_, rfl⟩
  go_enter Try.func14, Try.ntmps14
  rw [ho] at HF HB ⊢
  clear hw
  cases o
  · go_wp2_with (go_at_call 22; refine go_stop ?_)
    unfold Stop
    rw [hi_eq, lo_eq]
    refine (rtk_low T.f.size _ (by unfold maxLen; omega)).mono ?_
    rintro e w1 ⟨rfl, rfl⟩
    have cv := conv_bytes (w.alloc (.cells #[.string T.f, .string T.t, .int .i64 T.next, .bool false] 25)) (w.heap.size + 1) (by simp) [119, tkHi T.next, tkLo T.next, tkLow T.f.size]
    simp only [List.length_cons, List.length_nil, List.map_cons, List.map_nil, Nat.zero_add, Nat.reduceAdd, show (UInt8.toNat 119 : Int) = 119 from rfl] at cv
    dsimp only
    go_upto_region 6 with fail
    have HF6 := Lib.hid (HF.out.alloc (.cells #[.int .u8 119, .int .u8 (tkHi T.next).toNat, .int .u8 (tkLo T.next).toNat, .int .u8 (tkLow T.f.size).toNat] 5))
    have hb6 := ((Fr.refl [] _).alloc (.cells #[.int .u8 119, .int .u8 (tkHi T.next).toNat, .int .u8 (tkLo T.next).toNat, .int .u8 (tkLow T.f.size).toNat] 5)).keep HB.out (by simp)
    have HPUT : Hid (putT T = [119, tkHi T.next, tkLo T.next, tkLow T.f.size] ++ (T.f.toList ++ tkLow T.t.size :: T.t.toList)) := Lib.hid (by unfold putT; rw [ho]; rfl)
    clear cv HF HB hn
    generalize (w.alloc (.cells #[.string T.f, .string T.t, .int .i64 T.next, .bool false] 25)).alloc (.cells #[.int .u8 119, .int .u8 (tkHi T.next).toNat, .int .u8 (tkLo T.next).toNat, .int .u8 (tkLow T.f.size).toNat] 5) = w6 at *
    obtain ⟨hd, hhd⟩ : ∃ hd : ByteArray, hd = ⟨#[119, tkHi T.next, tkLo T.next, tkLow T.f.size]⟩ := ⟨_, rfl⟩
    have HHD := Lib.hid hhd
    rw [← hhd]
    have hsz : hd.size = 4 := by rw [hhd]; rfl
    clear hhd ho
    obtain ⟨d0, d1, d2, d3, _⟩ := cells4 hb6
    have hlt := lt_of_block hb6
    have n1 : ¬ w.heap.size = w6.heap.size := by omega
    have n2 : ¬ w6.heap.size = w.heap.size := by omega
    have cv1 := conv_bytes w6 w6.heap.size rfl [tkLow T.t.size]
    have cv2 := conv_bytesD w6 w6.heap.size rfl [tkLow T.t.size]
    simp only [List.length_cons, List.length_nil, List.map_cons, List.map_nil, Nat.zero_add] at cv1 cv2
    clear hb6
    have ad1 := add_str hd T.f (by omega)
    have ad2 := add_str (hd ++ T.f) ⟨#[tkLow T.t.size]⟩ (by rw [ByteArray.size_append]; show hd.size + T.f.size + 1 ≤ _; omega)
    have ad3 := add_str (hd ++ T.f ++ ⟨#[tkLow T.t.size]⟩) T.t (by rw [ByteArray.size_append, ByteArray.size_append]; show hd.size + T.f.size + 1 + T.t.size ≤ _; omega)
    have HEND : Hid (hd ++ T.f ++ ⟨#[tkLow T.t.size]⟩ ++ T.t = tkBa (putT T)) := Lib.hid (bs_inj (by rw [list_tkBa, HPUT.out, cat_list, cat_list, cat_list, HHD.out]; simp [ByteArray.toList_eq]))
    go_region_held_law (fun w' => w'.cell? ⟨w.heap.size, 0, none⟩ = some (.string T.f) ∧ w'.cell? ⟨w.heap.size, 1, none⟩ = some (.string T.t)) (go_keep) (first
      | (go_at_call 22; refine (rtk_low T.t.size _ (by unfold maxLen; omega)).mono ?_; rintro e wn ⟨rfl, rfl⟩))
    all_goals
      go_wp2_with fail
      go_ret
      exact ⟨by rw [← HEND.out]; rfl, (HF6.out.alloc _).drew⟩
  · go_wp2_with (go_at_call 22; refine go_stop ?_)
    unfold Stop
    rw [hi_eq, lo_eq]
    refine (rtk_low T.f.size _ (by unfold maxLen; omega)).mono ?_
    rintro e w1 ⟨rfl, rfl⟩
    have cv := conv_bytes (w.alloc (.cells #[.string T.f, .string T.t, .int .i64 T.next, .bool true] 25)) (w.heap.size + 1) (by simp) [111, tkHi T.next, tkLo T.next, tkLow T.f.size]
    simp only [List.length_cons, List.length_nil, List.map_cons, List.map_nil, Nat.zero_add, Nat.reduceAdd, show (UInt8.toNat 111 : Int) = 111 from rfl] at cv
    dsimp only
    go_upto_region 6 with fail
    have HF6 := Lib.hid (HF.out.alloc (.cells #[.int .u8 111, .int .u8 (tkHi T.next).toNat, .int .u8 (tkLo T.next).toNat, .int .u8 (tkLow T.f.size).toNat] 5))
    have hb6 := ((Fr.refl [] _).alloc (.cells #[.int .u8 111, .int .u8 (tkHi T.next).toNat, .int .u8 (tkLo T.next).toNat, .int .u8 (tkLow T.f.size).toNat] 5)).keep HB.out (by simp)
    have HPUT : Hid (putT T = [111, tkHi T.next, tkLo T.next, tkLow T.f.size] ++ (T.f.toList ++ tkLow T.t.size :: T.t.toList)) := Lib.hid (by unfold putT; rw [ho]; rfl)
    clear cv HF HB hn
    generalize (w.alloc (.cells #[.string T.f, .string T.t, .int .i64 T.next, .bool true] 25)).alloc (.cells #[.int .u8 111, .int .u8 (tkHi T.next).toNat, .int .u8 (tkLo T.next).toNat, .int .u8 (tkLow T.f.size).toNat] 5) = w6 at *
    obtain ⟨hd, hhd⟩ : ∃ hd : ByteArray, hd = ⟨#[111, tkHi T.next, tkLo T.next, tkLow T.f.size]⟩ := ⟨_, rfl⟩
    have HHD := Lib.hid hhd
    rw [← hhd]
    have hsz : hd.size = 4 := by rw [hhd]; rfl
    clear hhd ho
    obtain ⟨d0, d1, d2, d3, _⟩ := cells4 hb6
    have hlt := lt_of_block hb6
    have n1 : ¬ w.heap.size = w6.heap.size := by omega
    have n2 : ¬ w6.heap.size = w.heap.size := by omega
    have cv1 := conv_bytes w6 w6.heap.size rfl [tkLow T.t.size]
    have cv2 := conv_bytesD w6 w6.heap.size rfl [tkLow T.t.size]
    simp only [List.length_cons, List.length_nil, List.map_cons, List.map_nil, Nat.zero_add] at cv1 cv2
    clear hb6
    have ad1 := add_str hd T.f (by omega)
    have ad2 := add_str (hd ++ T.f) ⟨#[tkLow T.t.size]⟩ (by rw [ByteArray.size_append]; show hd.size + T.f.size + 1 ≤ _; omega)
    have ad3 := add_str (hd ++ T.f ++ ⟨#[tkLow T.t.size]⟩) T.t (by rw [ByteArray.size_append, ByteArray.size_append]; show hd.size + T.f.size + 1 + T.t.size ≤ _; omega)
    have HEND : Hid (hd ++ T.f ++ ⟨#[tkLow T.t.size]⟩ ++ T.t = tkBa (putT T)) := Lib.hid (bs_inj (by rw [list_tkBa, HPUT.out, cat_list, cat_list, cat_list, HHD.out]; simp [ByteArray.toList_eq]))
    go_region_held_law (fun w' => w'.cell? ⟨w.heap.size, 0, none⟩ = some (.string T.f) ∧ w'.cell? ⟨w.heap.size, 1, none⟩ = some (.string T.t)) (go_keep) (first
      | (go_at_call 22; refine (rtk_low T.t.size _ (by unfold maxLen; omega)).mono ?_; rintro e wn ⟨rfl, rfl⟩))
    all_goals
      go_wp2_with fail
      go_ret
      exact ⟨by rw [← HEND.out]; rfl, (HF6.out.alloc _).drew⟩
end Go.Proofs.Ytcaildjmpeefbaa
