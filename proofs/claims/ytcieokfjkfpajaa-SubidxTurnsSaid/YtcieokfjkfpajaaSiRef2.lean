/- THE DOCUMENT's WATCHES (impostref11): Del, Stab: contracts -/
import Derived.Test.YtcieokfjkfpajaaSiRef
namespace Go.Proofs.Ytcieokfjkfpajaa
open Go.RowKit
set_option linter.unusedVariables false
set_option linter.unusedSimpArgs false

theorem delL_len {L : List Sb} {id : Int} : (delL L id).length = L.length ↔ hasId L id = false := by
  unfold delL
  rw [List.length_filter_eq_length_iff]
  constructor
  · intro h
    cases hh : hasId L id with
    | false => rfl
    | true => obtain ⟨s, hs, e⟩ := hasId_iff.1 hh; have := h s hs; simp [e] at this
  · intro h s hs; simpa using hasId_not h s hs
theorem delL_snoc (P : List Sb) (x : Sb) (id : Int) : delL (P ++ [x]) id = delL P id ++ if x.id = id then [] else [x] := by
  unfold delL
  rw [List.filter_append]
  congr 1
  by_cases h : x.id = id
  · simp [h]
  · simp [h]
set_option maxHeartbeats 2000000 in
theorem rsi_del (lv : Value) (L : List Sb) (id : Int) (S : List Nat) (w : World) (hl : LFar S Sb.cells 4 w lv L) (hS : ∀ k ∈ S, k < w.heap.size) (hn : L.length ≤ 1000) :
    Calls Try.prog 23 #[lv, .int .i64 id] w fun e w' => ∃ v', e = .returned (.tuple #[v', .int .i64 (delE L id)]) ∧ LFar S Sb.cells 4 w' v' (delL L id) ∧ Fr [] w w' := by
  obtain ⟨s1, c1, rfl, la, ma⟩ := hl.form
  unfold maxLen at ma
  have HL := Lib.hid hl
  have HS := Lib.hid hS
  obtain ⟨R, hR⟩ : ∃ R, R = delE L id := ⟨_, rfl⟩
  rw [← hR]
  have HR := Lib.hid hR
  clear hl hS hR
  go_enter Try.func23, Try.ntmps23
  go_upto_region 3 with fail
  go_loopw [6, 7] (fun ov iv wr => ∃ (j : Nat) (o : List Sb), iv = .int .i64 j ∧ j ≤ L.length ∧ OutAt Sb.cells 32 4 w wr ov o ∧ o = delL (L.take j) id ∧ o.length ≤ j ∧ Fr [] w wr) (fun _ i _ => L.length - (intOf i).toNat)
  case atStart => exact ⟨0, [], rfl, Nat.zero_le _, OutAt.nil _ _, by simp [delL], by simp, Fr.refl _ _⟩
  case round =>
    obtain ⟨j, o, rfl, hj, ho, hoe, hol, hf⟩ := hrel
    have HO := Lib.hid ho
    have HOE := Lib.hid hoe
    have HF := Lib.hid hf
    clear ho hoe hf
    by_cases h : j < L.length
    · obtain ⟨x, hx⟩ : ∃ x, L[j]? = some x := ⟨_, List.getElem?_eq_getElem h⟩
      obtain ⟨g, off, d1, e1, hg, l1, k1⟩ := SbIn.here HL.out.lin (by omega)
      simp only [Value.slice.injEq] at e1
      obtain ⟨rfl, _, rfl⟩ := e1
      have HP := Lib.hid ((k1 j x hx).keep HF.out (by simp))
      have HTK := Lib.hid (take_snoc hx)
      have HSN := Lib.hid (delL_snoc (L.take j) x id)
      have t1 : decide (j < L.length) = true := by simpa using h
      obtain ⟨q0, q1, q2, q3⟩ := HP.out
      clear hx k1 hg
      by_cases hid : x.id = id
      · have t2 : (x.id == id) = true := by simpa using hid
        have HID := Lib.hid hid
        clear hid
        go_wp2_with fail
        go_roundw
        case rel =>
          refine ⟨j + 1, o, by go_num, by omega, HO.out, ?_, by omega, HF.out⟩
          rw [HTK.out, HSN.out, if_pos HID.out, List.append_nil, ← HOE.out]
        case measure => simp [intOf]; omega
      · have t2 : (x.id == id) = false := by simpa using hid
        have HID := Lib.hid hid
        clear hid
        go_wp2_with (at_builtin; refine wpList_append_any rfl (.tmp 21) (.tmp 26) 26 32 (.agg #[.int .i64 0, .int .i64 0, .string ⟨#[]⟩, .string ⟨#[]⟩]) 4 48 rfl rsub_slice rsub_info rfl (by decide) _ o.length (allC Sb.cells o) rfl (HO.out.lies.keep0 ((Fr.refl [] _).alloc _)) _ 1 x.cells rfl (lies_row wr 32 x.cells rfl _ rfl) x.cone (by unfold maxLen; omega) (by omega) ?app)
        case app =>
        intro v8 w8 h1 h2 h3
        have ha := (HO.out.keep ((Fr.refl [] wr).alloc (.cells x.cells.toArray 32)))
        have HA := Lib.hid (OutAt.app ha (by have := HF.out.size; simp at this ⊢; omega) (xs := [x]) (by rw [allC_one]; exact h1) rfl h3)
        have HG := Lib.hid (OutAt.fr ha (HF.out.alloc _) h2)
        clear h1 h2 h3 ha q0 q1 q2 q3
        go_wp2_with fail
        go_roundw
        case rel =>
          refine ⟨j + 1, o ++ [x], by go_num, by omega, HA.out, ?_, by simp; omega, HG.out⟩
          rw [HTK.out, HSN.out, if_neg HID.out, ← HOE.out]
        case measure => simp [intOf]; omega
    · have t1 : decide (j < L.length) = false := by simpa using h
      have hjL : L.take j = L := List.take_of_length_le (by omega)
      rw [hjL] at HOE
      have HSS := HS.out
      have hlen := delL_len (L := L) (id := id)
      rw [← HOE.out] at hlen
      obtain ⟨s6, c6, hv6, _⟩ := HO.out.lies.form
      subst hv6
      by_cases hno : hasId L id = true
      · have t2 : ((o.length : Int) == (L.length : Int)) = false := by
          rw [beq_eq_false_iff_ne]; intro e
          have : o.length = L.length := by omega
          rw [hlen.1 this] at hno; cases hno
        have t3 : (o.length == L.length) = false := by
          rw [beq_eq_false_iff_ne]; intro e
          rw [hlen.1 e] at hno; cases hno
        have HE : Hid (R = 0) := Lib.hid (by rw [HR.out]; simp [delE, hno])
        clear hlen hno hjL HSS
        go_wp2_with fail
        refine bodyPost_ret (v := .tuple #[.slice s6 o.length c6, .int .i64 0]) (by simp [results, Try.results23, go_sem]) rfl ?_
        refine ⟨_, by rw [HE.out], ?_, HF.out⟩
        rw [← HOE.out]
        exact OutAt.far HO.out Sb.clen HS.out
      · have hno : hasId L id = false := by simpa using hno
        have e0 : o.length = L.length := hlen.2 hno
        have HE : Hid (R = 4) := Lib.hid (by rw [HR.out]; simp [delE, hno])
        have HDL : Hid (delL L id = L) := Lib.hid (delE_no hno).2
        clear hlen hno hjL HSS
        rw [e0]
        clear e0
        go_wp2_with fail
        refine bodyPost_ret (v := .tuple #[.slice s1 L.length c1, .int .i64 4]) (by simp [results, Try.results23, go_sem]) rfl ?_
        refine ⟨_, by rw [HE.out], ?_, HF.out⟩
        rw [HDL.out]
        exact HL.out.keep0 HF.out
end Go.Proofs.Ytcieokfjkfpajaa
