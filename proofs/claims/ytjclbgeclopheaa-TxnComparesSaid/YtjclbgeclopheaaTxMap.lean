/- PACKAGE txn: byKey, holds: contracts; a map of structs is looked at, with 'ok' -/
import Derived.Test.YtjclbgeclopheaaTxAt
import Derived.Test.YtjclbgeclopheaaEvRis
namespace Go.Proofs.Ytjclbgeclopheaa
open Go.RowKit Go.Maps
set_option linter.unusedVariables false
set_option linter.unusedSimpArgs false

/-- v, ok := m[e] -/
theorem MapS.look2 {α : Type} {ag : α → Array Value} {P : Program} {k E t : TypeId} {w : World} {b n : Nat} {M : ByteArray → Option α} (h : MapS ag P k w b n M) (hk : P.underlying k = some .string) (ht : P.underlying t = some (.map k E)) {zc : Array Value} (hz : (zeroValue E).run P w = .ok (.agg zc) w) {e : ByteArray} (he : e.size ≤ maxLen) :
    (Instr.lookup t (.map (some b)) (.string e) true).run P w = .ok (.tuple #[.agg (((M e).map ag).getD zc), .bool (M e).isSome]) w := by
  obtain ⟨D, h, tl⟩ := h
  obtain ⟨v, ps, hrun, hv⟩ := h.look_ok (string_keyed hk) ht hz (zd := .held (.agg zc)) (zp := []) rfl (WideMaps.keyOf_string_mk hk he)
  obtain ⟨_, _, hy⟩ := selfAgg_inv hv
  rw [tl e he] at hy
  have hb : Maps.has D (.string e.data.toList) = (M e).isSome := by
    cases hm : M e with
    | none => exact has_false_of_atKey (fun z => by rw [tl e he, hm]; rfl)
    | some u => exact has_true_of_atKey (y := .held (.agg (ag u))) (fun z => by rw [tl e he, hm]; rfl)
  have : v = .agg (((M e).map ag).getD zc) := by
    cases hm : M e with
    | none => rw [hm] at hy; simp at hy; rw [← hy.1]; rfl
    | some u => rw [hm] at hy; simp at hy; rw [← hy.1]; rfl
  rw [hrun, this, hb]
theorem getK_snoc {m : List Kv} (hs : Srt Kv.key m) {j : Nat} {x : Kv} (hx : m[j]? = some x) (k : ByteArray) : getK k (m.take (j + 1)) = if k = x.key then some x else getK k (m.take j) := by
  have h1 : m.take (j + 1) = m.take j ++ [x] := by rw [List.take_add_one, hx]; rfl
  have hs1 : Srt Kv.key (m.take (j + 1)) := hs.sublist (List.take_sublist _ _)
  have hs0 : Srt Kv.key (m.take j) := hs.sublist (List.take_sublist _ _)
  by_cases hk : k = x.key
  · rw [if_pos hk, getK_srt hs1, h1]
    exact ⟨by simp, hk.symm⟩
  · rw [if_neg hk]
    refine getK_ext hs1 hs0 fun y hy => ?_
    rw [h1, List.mem_append, List.mem_singleton]
    constructor
    · rintro (h | rfl)
      · exact h
      · exact absurd hy.symm hk
    · exact Or.inl
set_option maxHeartbeats 1000000 in
theorem tx_byKey (mv : Value) (m : List Kv) (w : World) (hm : KvIn w mv m) (hs : Srt Kv.key m) (bm : m.length ≤ many) : Calls Try.prog 28 #[mv] w fun e w' => ∃ b, e = .returned (.map (some b)) ∧ MapS Kv.ag Try.prog 9 w' b m.length (fun k => getK k m) ∧ w.heap.size ≤ b ∧ Fr [] w w' := by
  unfold many at bm
  obtain ⟨s1, c1, rfl, la1, ma1⟩ := LIn.form hm
  unfold maxLen at ma1
  have HK := Lib.hid hm
  have HS := Lib.hid hs
  have hmm := @run_makeMap Try.prog
  have HMD := Lib.hid (MapS.made Kv.ag Try.prog 9 w)
  clear hm hs
  go_enter Try.func28, Try.ntmps28
  go_wp2_with fail
  go_loopw [9] (fun i wr => ∃ (j : Nat), i = .int .i64 j ∧ j ≤ m.length ∧ MapS Kv.ag Try.prog 9 wr w.heap.size j (fun k => getK k (m.take j)) ∧ Fr [] w wr) (fun i _ => m.length - (intOf i).toNat)
  case atStart => exact ⟨0, rfl, Nat.zero_le _, HMD.out.eq (fun k _ => rfl), (Fr.refl _ _).alloc _⟩
  case round =>
    obtain ⟨j, rfl, hj, hm, hf⟩ := hrel
    have HM := Lib.hid hm
    have HF := Lib.hid hf
    clear hm hf
    by_cases h : j < m.length
    · obtain ⟨x, hx⟩ : ∃ x, m[j]? = some x := ⟨_, List.getElem?_eq_getElem h⟩
      obtain ⟨g, off, d1, e1, _, l1, k1⟩ := KvIn.here (LIn.keep0 HK.out HF.out) (by omega)
      simp only [Value.slice.injEq] at e1
      obtain ⟨rfl, _, rfl⟩ := e1
      obtain ⟨p0, p1, p2⟩ := k1 j x hx
      have HX := Lib.hid hx
      obtain ⟨w5, hst, hm5, hf5⟩ := (HM.out.keep ((Fr.refl [] wr).alloc (Obj.cells #[.string x.key, .string x.val, .int .i64 x.rev] 35)) (by simp)).store str_key map_kv (by unfold maxLen; omega) x.wf.1 x
      simp only [Kv.ag] at hst
      have HM5 := Lib.hid hm5
      have HF5 := Lib.hid ((HF.out.alloc _).trans hf5 (by simp))
      have t1 : decide (j < m.length) = true := by simpa using h
      clear hx k1 hm5 hf5
      go_wp2_with fail
      go_roundw
      case rel => exact ⟨j + 1, by go_num, by omega, HM5.out.eq (fun k _ => getK_snoc HS.out HX.out k), HF5.out⟩
      case measure => simp [intOf]; omega
    · have t1 : decide (j < m.length) = false := by simpa using h
      have hj2 : j = m.length := by omega
      subst hj2
      have HM2 : Hid (MapS Kv.ag Try.prog 9 wr w.heap.size m.length (fun k => getK k m)) := Lib.hid (by have := HM.out; rw [List.take_length] at this; exact this)
      go_wp2
      go_ret
      exact ⟨_, rfl, HM2.out, Nat.le_refl _, HF.out⟩
/-- does a compare hold of what its key has, if it is there? -/
def hB (c : Cm) (v : ByteArray) (r : Int) (b : Bool) : Bool :=
  if c.kind = 1 then b && decide (v = c.val) else if c.kind = 2 then (if c.rev = 0 then !b else b && decide (r = c.rev)) else false
def kvW (o : Option Kv) : ByteArray × ByteArray × Int := match o with | some x => (x.key, x.val, x.rev) | none => (⟨#[]⟩, ⟨#[]⟩, 0)
theorem oneC_hB (m : List Kv) (c : Cm) : oneC m c = hB c (kvW (getK c.key m)).2.1 (kvW (getK c.key m)).2.2 (getK c.key m).isSome := by
  unfold oneC hB kvW
  cases getK c.key m <;> simp
set_option maxHeartbeats 1000000 in
theorem tx_holds (c : Cm) (k v : ByteArray) (r : Int) (b : Bool) (w : World) : Calls Try.prog 44 #[.agg #[.int .i64 c.kind, .string c.key, .string c.val, .int .i64 c.rev], .agg #[.string k, .string v, .int .i64 r], .bool b] w fun e w' =>
    e = .returned (.bool (hB c v r b)) ∧ Fr [] w w' := by
  have HF : Hid (Fr [] w ((w.alloc (.cells #[.int .i64 c.kind, .string c.key, .string c.val, .int .i64 c.rev] 61)).alloc (.cells #[.string k, .string v, .int .i64 r] 35))) := Lib.hid (((Fr.refl [] w).alloc _).alloc _)
  go_enter Try.func44, Try.ntmps44
  by_cases h1 : c.kind = 1
  · have t1 : (c.kind == 1) = true := by simpa using h1
    have HE : Hid (hB c v r b = (b && decide (v = c.val))) := Lib.hid (by unfold hB; rw [if_pos h1])
    clear h1
    cases b
    · go_wp2
      go_ret
      exact ⟨by rw [HE.out]; rfl, HF.out⟩
    · by_cases hv : v = c.val
      · have t2 : (v.toList == c.val.toList) = true := by simpa using congrArg ByteArray.toList hv
        subst hv
        go_wp2
        go_ret
        exact ⟨by rw [HE.out]; simp, HF.out⟩
      · have t2 : (v.toList == c.val.toList) = false := by
          rw [beq_eq_false_iff_ne]; intro e; exact hv (bs_inj e)
        go_wp2
        go_ret
        exact ⟨by rw [HE.out]; simp [hv], HF.out⟩
  · have t1 : (c.kind == 1) = false := by simpa using h1
    by_cases h2 : c.kind = 2
    · have t2 : (c.kind == 2) = true := by simpa using h2
      by_cases h3 : c.rev = 0
      · have t3 : (c.rev == 0) = true := by simpa using h3
        have HE : Hid (hB c v r b = !b) := Lib.hid (by unfold hB; rw [if_neg h1, if_pos h2, if_pos h3])
        clear h1 h2 h3
        go_wp2
        go_ret
        exact ⟨by rw [HE.out]; rfl, HF.out⟩
      · have t3 : (c.rev == 0) = false := by simpa using h3
        have HE : Hid (hB c v r b = (b && decide (r = c.rev))) := Lib.hid (by unfold hB; rw [if_neg h1, if_pos h2, if_neg h3])
        clear h1 h2 h3
        cases b
        · go_wp2
          go_ret
          exact ⟨by rw [HE.out]; rfl, HF.out⟩
        · go_wp2
          go_ret
          exact ⟨by rw [HE.out]; rfl, HF.out⟩
    · have t2 : (c.kind == 2) = false := by simpa using h2
      have HE : Hid (hB c v r b = false) := Lib.hid (by unfold hB; rw [if_neg h1, if_neg h2])
      clear h1 h2
      go_wp2
      go_ret
      exact ⟨by rw [HE.out]; rfl, HF.out⟩
end Go.Proofs.Ytjclbgeclopheaa
