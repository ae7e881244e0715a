/- THE DOCUMENT's hist (impostref06): Get, Count, Map: contracts -/
import Derived.Test.YtjclbgeclopheaaAway
import Derived.Test.YtjclbgeclopheaaEvFold
namespace Go.Proofs.Ytjclbgeclopheaa
open Go.RowKit
set_option linter.unusedVariables false
set_option linter.unusedSimpArgs false

theorem getK_take {k : ByteArray} {m : List Kv} {j : Nat} {x : Kv} (hx : m[j]? = some x) (hn : ∀ y ∈ m.take j, y.key ≠ k) (hk : x.key = k) : getK k m = some x := by
  obtain ⟨h1, rfl⟩ := List.getElem?_eq_some_iff.1 hx
  unfold getK
  conv => lhs; rw [← List.take_append_drop j m]
  rw [List.find?_append]
  have : (m.take j).find? (fun x => decide (x.key = k)) = none := by rw [List.find?_eq_none]; simpa using hn
  rw [this, List.drop_eq_getElem_cons h1, List.find?_cons]
  simp [hk]
def getZ (k : ByteArray) (m : List Kv) : Kv := (getK k m).getD Kv.zero
set_option maxHeartbeats 1000000 in
theorem rget_any (mv : Value) (m : List Kv) (k : ByteArray) (w : World) (hm : KvIn w mv m) (bm : m.length ≤ many + many) : Calls Try.prog 12 #[mv, .string k] w fun e w' =>
    e = .returned (.tuple #[.agg #[.string (getZ k m).key, .string (getZ k m).val, .int .i64 (getZ k m).rev], .bool (getK k m).isSome]) ∧ Fr [] w w' := by
  unfold many at bm
  have HM := Lib.hid hm
  obtain ⟨s1, c1, rfl, la, ma⟩ := hm.form
  unfold maxLen at ma
  clear hm
  obtain ⟨wb, hwb⟩ : ∃ wb, wb = w.alloc (Obj.cells #[.string ⟨#[]⟩, .string ⟨#[]⟩, .int .i64 0] 35) := ⟨_, rfl⟩
  have HWB := Lib.hid hwb
  have HX : Hid (wb.heap[w.heap.size]? = some (.cells #[.string ⟨#[]⟩, .string ⟨#[]⟩, .int .i64 0] 35 (0, 0))) := Lib.hid (by rw [hwb]; exact new_block w _)
  have HF0 : Hid (Fr [] w wb) := Lib.hid (by rw [hwb]; exact (Fr.refl [] w).alloc _)
  clear hwb
  go_enter Try.func12, Try.ntmps12
  go_wp2_with fail
  rw [← HWB.out]
  go_loopw [6] (fun i wr => ∃ (j : Nat), i = .int .i64 j ∧ j ≤ m.length ∧ (∀ y ∈ m.take j, y.key ≠ k) ∧ wr.heap[w.heap.size]? = some (.cells #[.string ⟨#[]⟩, .string ⟨#[]⟩, .int .i64 0] 35 (0, 0)) ∧ Fr [] w wr) (fun i _ => m.length - (intOf i).toNat)
  case atStart => exact ⟨0, rfl, Nat.zero_le _, by simp, HX.out, HF0.out⟩
  case round =>
    clear HX HF0 HWB wb
    obtain ⟨j, rfl, hj, hs, hx0, hf0⟩ := hrel
    have HS := Lib.hid hs
    have HX := Lib.hid hx0
    have HF0 := Lib.hid hf0
    clear hs hx0 hf0
    obtain ⟨b0, b1, b2, bf⟩ := cells3 HX.out
    have bf0 := bf 0
    have bf1 := bf 1
    have bf2 := bf 2
    clear bf
    by_cases h : j < m.length
    · obtain ⟨x, hx⟩ : ∃ x, m[j]? = some x := ⟨_, List.getElem?_eq_getElem h⟩
      obtain ⟨g, off, d1, e1, hg, l1, k1⟩ := KvIn.here HM.out (by omega)
      cases e1
      obtain ⟨p0, p1, p2⟩ := (k1 j x hx).keep HF0.out (by simp)
      have HXX := Lib.hid hx
      have t1 : decide (j < m.length) = true := by simpa using h
      have n1 : ¬ g = w.heap.size := by omega
      have n2 : ¬ w.heap.size = g := by omega
      clear hx k1
      by_cases hk : x.key = k
      · have hk2 : (x.key.toList == k.toList) = true := by rw [hk]; simp
        have HK := Lib.hid hk
        have HG := Lib.hid (getK_take HXX.out HS.out hk)
        have HZ : Hid (getZ k m = x) := Lib.hid (by unfold getZ; rw [HG.out]; rfl)
        clear hk
        go_wp2_with fail
        refine bodyPost_ret (v := .tuple #[.agg #[.string x.key, .string x.val, .int .i64 x.rev], .bool true]) (by simp [results, Try.results12, go_sem, *]) rfl ⟨?_, ?_⟩
        · rw [HZ.out, HG.out]; rfl
        · exact HF0.out.set3 (Nat.le_refl _) _ _ _
      · have hk2 : (x.key.toList == k.toList) = false := by rw [beq_eq_false_iff_ne]; exact fun e => hk (bs_inj e)
        have HK := Lib.hid hk
        clear hk
        go_wp2_with fail
        go_roundw
        case rel =>
          refine ⟨j + 1, by go_num, by omega, fun y hy => ?_, HX.out, HF0.out⟩
          rw [take_snoc HXX.out, List.mem_append, List.mem_singleton] at hy
          rcases hy with hy | rfl
          · exact HS.out y hy
          · exact HK.out
        case measure => simp [intOf]; omega
    · have t1 : decide (j < m.length) = false := by simpa using h
      have HG : Hid (getK k m = none) := Lib.hid (getK_none.2 (by have := HS.out; rw [List.take_of_length_le (by omega)] at this; exact this))
      have HZ : Hid (getZ k m = Kv.zero) := Lib.hid (by unfold getZ; rw [HG.out]; rfl)
      go_wp2_with fail
      refine bodyPost_ret (v := .tuple #[.agg #[.string ⟨#[]⟩, .string ⟨#[]⟩, .int .i64 0], .bool false]) (by simp [results, Try.results12, go_sem, *]) rfl ⟨?_, ?_⟩
      · rw [HZ.out, HG.out]; rfl
      · exact HF0.out.set3 (Nat.le_refl _) _ _ _
end Go.Proofs.Ytjclbgeclopheaa
