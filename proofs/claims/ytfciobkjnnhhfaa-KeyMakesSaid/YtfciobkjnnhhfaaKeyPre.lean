/- PACKAGE key: above, Prefix -/
import Derived.Test.YtfciobkjnnhhfaaKeyRef
namespace Go.Proofs.Ytfciobkjnnhhfaa
open Go.RowKit
set_option linter.unusedVariables false
set_option linter.unusedSimpArgs false

theorem ret_s {a b : ByteArray} (h : a.toList = b.toList) : Ending.returned (.string a) = .returned (.string b) := by rw [bs_inj h]
theorem ext_all (p : ByteArray) : (p.extract 0 p.size).toList = p.toList := by
  rw [bs_take, List.take_of_length_le (by rw [bs_len]; omega)]
theorem ext_snoc (p : ByteArray) (m : Nat) (h : m < p.size) : (p.extract 0 (m + 1)).toList = (p.extract 0 m).toList ++ [p[m]] := by
  rw [bs_take, bs_take, List.take_add_one, bs_get p m h]; rfl
set_option maxHeartbeats 1000000 in
theorem key_above (p : ByteArray) (w : World) (hp : p.size ≤ 140737488355328) : Calls Try.prog 26 #[.string p] w fun e w' => e = .returned (.string (prefS p)) ∧ Fr [] w w' := by
  go_enter Try.func26, Try.ntmps26
  go_wp2_with fail
  go_loopw [3] (fun v wr => ∃ n : Nat, v = .int .i64 n ∧ n ≤ p.size ∧ prefB (p.extract 0 n).toList = prefB p.toList ∧ Fr [] w wr) (fun v _ => match v with | .int _ n => n.toNat | _ => 0)
  case atStart => exact ⟨p.size, rfl, Nat.le_refl _, by rw [ext_all], Fr.refl _ _⟩
  case round =>
    obtain ⟨n, rfl, hn, hu, hf⟩ := hrel
    have HU := Lib.hid hu
    have HF := Lib.hid hf
    clear hu hf
    by_cases h0 : n = 0
    · subst h0
      go_wp2
      go_ret
      refine ⟨?_, HF.out⟩
      refine ret_s ?_
      rw [prefS_list, ← HU.out, bs_take, List.take_zero, prefB_nil, ByteArray.toList_eq]
    · obtain ⟨m, hm⟩ : ∃ m, n = m + 1 := ⟨n - 1, by omega⟩
      have hmp : m < p.size := by omega
      have HS := Lib.hid (ext_snoc p m hmp)
      have t1 : decide (0 < (n : Int)) = true := by simp; omega
      have t2 : ((n : Int) == 0) = false := by simp; omega
      have hw1 : IntKind.i64.wrap ((n : Int) - 1) = (m : Int) := by rw [IntWalk.i64_in _ ⟨by omega, by omega⟩]; omega
      by_cases hx : p[m] = 255
      · have HX := Lib.hid hx
        go_wp2_with fail
        go_roundw
        case rel =>
          refine ⟨m, rfl, by omega, ?_, HF.out⟩
          rw [← HU.out, hm, HS.out, HX.out, prefB_255]
        case measure => simp; omega
      · have hx2 : ((((p[m]).toNat : Nat) : Int) == 255) = false := by
          rw [beq_eq_false_iff_ne]; intro e; apply hx; apply UInt8.toNat_inj.1; have : (255 : UInt8).toNat = 255 := rfl; omega
        have HX := Lib.hid hx
        have hs1 := u8_succ hx
        clear hx
        have hlt : (p[m]).toNat + 1 < 256 := by have := ((p[m]) + 1).toNat_lt; omega
        have cv : (convert 36 9 (.slice (some ⟨wr.heap.size, 0, none⟩) 1 1)).run Try.prog ((wr.alloc (Obj.cells #[Value.int IntKind.u8 (((p[m]).toNat : Int) + 1)] 5)).drew) = .ok (.string ⟨#[(p[m]) + 1]⟩) ((wr.alloc (Obj.cells #[Value.int IntKind.u8 (((p[m]).toNat : Int) + 1)] 5)).drew) := by
          refine run_convert_bytes_back _ 36 9 5 ⟨wr.heap.size, 0, none⟩ 1 [(p[m]) + 1] rfl rfl rfl ?_
          intro j hj
          have : j = 0 := by simpa using hj
          subst this
          have e : (((p[m]) + 1).toNat : Int) = ((p[m]).toNat : Int) + 1 := by omega
          simp only [List.getElem_cons_zero, e]
          exact (cells1 (w := (wr.alloc _).drew) (new_block wr _)).1
        go_wp2_with fail
        go_region
        go_wp2
        go_ret
        refine ⟨?_, (HF.out.alloc _).drew⟩
        refine ret_s ?_
        rw [bs_app, prefS_list, ← HU.out, hm, HS.out, prefB_last _ HX.out, ByteArray.toList_eq ⟨#[_]⟩]
theorem key_prefix (p : ByteArray) (w : World) (hp : p.size ≤ 140737488355328) : Calls Try.prog 22 #[.string p] w fun e w' => e = .returned (.agg #[.string p, .string (prefS p)]) ∧ Fr [] w w' := by
  have HA : Hid (∀ W, Calls Try.prog 26 #[.string p] W fun e w' => e = .returned (.string (prefS p)) ∧ Fr [] W w') := Lib.hid (fun W => key_above p W hp)
  obtain ⟨t, ht⟩ : ∃ t, t = prefS p := ⟨_, rfl⟩
  rw [← ht] at HA ⊢
  clear ht
  go_enter Try.func22, Try.ntmps22
  go_wp2_with (go_at_call 26; refine (HA.out _).mono ?_; rintro e w1 ⟨rfl, h1⟩; have HB := Lib.hid (h1.keep (new_block w _) (by simp)); obtain ⟨a0, a1, af⟩ := cells2 HB.out; have af0 := af 0; have af1 := af 1; have HF := Lib.hid (((Fr.refl [] w).alloc _).trans h1 (by simp)); clear h1 af)
  refine bodyPost_ret (v := .agg #[.string p, .string t]) (by simp [results, Try.results22, go_sem, *]) rfl ⟨rfl, HF.out.set2 (by omega) _ _⟩
end Go.Proofs.Ytfciobkjnnhhfaa
