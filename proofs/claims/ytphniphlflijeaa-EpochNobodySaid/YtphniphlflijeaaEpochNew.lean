/- PACKAGE epoch: contracts of New and Advance -/
import Derived.Test.YtphniphlflijeaaEpochRet
namespace Go.Proofs.Ytphniphlflijeaa
open Go.RowKit
set_option linter.unusedVariables false
set_option linter.unusedSimpArgs false

def PA.new (n : Nat) : PA := ⟨0, List.replicate n (false, 0), [], 0⟩
/-- a pool of the call's own -/
def MadePool (w : World) (A : PA) (e : Ending) (w' : World) : Prop := ∃ p S, e = .returned (.pointer (some ⟨p, 0, none⟩)) ∧ Pool w' p S A ∧ Fr [] w w' ∧ ∀ k ∈ S, w.heap.size ≤ k

theorem thread_slice : Try.prog.underlying 49 = some (.slice 62) := Try.underlying49
theorem thread_info : (Try.prog.info? 62).map (fun i => (i.zero, i.size, i.bytes)) = some (some (.agg #[.bool false, .int .i64 0]), 2, 16) := by kernel_rfl
theorem thCells_zero : ∀ n, thCells (List.replicate n (false, 0)) = (List.replicate n [Value.bool false, .int .i64 0]).flatten
  | 0 => rfl
  | n + 1 => by simp [List.replicate_succ, thCells, thCells_zero n]

theorem epoch_new (w : World) (n : Nat) (h1 : 1 ≤ n) (h8 : n ≤ 8) : Calls Try.prog 10 #[.int .i64 n] w (MadePool w (PA.new n)) := by
  have t1 : decide ((n : Int) < 1) = false := by simp; omega
  have t2 : decide (8 < (n : Int)) = false := by simp; omega
  have hmm := @run_makeMap Try.prog
  go_enter Try.func10, Try.ntmps10
  go_wp2_with (at_make; refine wpList_make_any rfl (.tmp 9) (.tmp 9) 49 62 (.agg #[.bool false, .int .i64 0]) 2 16 rfl thread_slice thread_info rfl (by decide) n rfl rfl (by omega) (by unfold maxLen; omega) ?mk)
  case mk =>
  intro w1 hr hf1
  have hl := Lies.of_own hr
  rw [← thCells_zero] at hl
  have HL := Lib.hid hl
  have HF := Lib.hid hf1
  have hlt := hl.lt w.heap.size rfl
  have HR : Hid (Pool ((w1.alloc (.map #[] 0)).alloc (.cells #[.int .i64 0, .slice (some ⟨w.heap.size, 0, none⟩) n n, .map (some w1.heap.size)] 52)) (w1.heap.size + 1) [w1.heap.size + 1, w.heap.size, w1.heap.size] (PA.new n)) := Lib.hid (by
    refine ⟨w.heap.size, w1.heap.size, fun _ => none, ?_, ?_, (MapIs.made _ _ w1).keep ((Fr.refl [] _).alloc _) (by simp), ⟨fun _ _ => rfl, ?_, ?_, ?_⟩, by simp, by simp, by simp, ?_⟩
    · have := new_block (w1.alloc (.map #[] 0)) (.cells #[.int .i64 0, .slice (some ⟨w.heap.size, 0, none⟩) n n, .map (some w1.heap.size)] 52)
      simpa [PA.new] using this
    · have := (hl.alloc (.map #[] 0)).alloc (.cells #[.int .i64 0, .slice (some ⟨w.heap.size, 0, none⟩) n n, .map (some w1.heap.size)] 52)
      simpa [PA.new] using this
    · intro e v h; cases h
    · intro e e' v v' k h; cases h
    · intro e v k h; cases h
    · intro k hk
      simp only [List.mem_cons, List.not_mem_nil, or_false] at hk
      rcases hk with rfl | rfl | rfl
      · have := new_block (w1.alloc (.map #[] 0)) (.cells #[.int .i64 0, .slice (some ⟨w.heap.size, 0, none⟩) n n, .map (some w1.heap.size)] 52)
        exact ⟨.cells #[.int .i64 0, .slice (some ⟨w.heap.size, 0, none⟩) n n, .map (some w1.heap.size)] 52, by simpa using this, Or.inl rfl⟩
      · obtain ⟨cur, hc⟩ := lies_tag hl rfl
        exact ⟨_, blk_alloc (blk_alloc hc _) _, Or.inr (Or.inl rfl)⟩
      · exact ⟨_, blk_alloc (new_block w1 (.map #[] 0)) _, trivial⟩)
  clear hl hr hf1
  go_wp2
  go_ret
  refine ⟨_, _, rfl, HR.out, ((HF.out.alloc _).alloc _), ?_⟩
  have := HF.out.size
  intro k hk
  simp only [List.mem_cons, List.not_mem_nil, or_false] at hk
  omega
theorem epoch_new_no (w : World) (t : Int) (h : t < 1 ∨ 8 < t) : Calls Try.prog 10 #[.int .i64 t] w fun e w' => e = .returned (.pointer none) ∧ w = w' := by
  by_cases h1 : t < 1
  · have t1 : decide (t < 1) = true := by simpa using h1
    clear h
    go_enter Try.func10, Try.ntmps10
    go_wp2
    go_ret
    exact ⟨rfl, rfl⟩
  · have t1 : decide (t < 1) = false := by simpa using h1
    have t2 : decide (8 < t) = true := by simp; omega
    clear h
    go_enter Try.func10, Try.ntmps10
    go_wp2
    go_ret
    exact ⟨rfl, rfl⟩

/-! Advance -/
def PA.ready (A : PA) : Bool := A.th.all (fun x => !x.1 || decide (x.2 = A.ep))
def PA.advance (A : PA) : PA := if A.ready then { A with ep := A.ep + 1 } else A
theorem ready_no {A : PA} {j : Nat} {s : Int} (h : A.th[j]? = some (true, s)) (hs : s ≠ A.ep) : A.ready = false := by
  unfold PA.ready
  rw [List.all_eq_false]
  exact ⟨_, List.mem_of_getElem? h, by simpa using hs⟩
theorem ready_yes {A : PA} (h : ∀ i, i < A.th.length → (!(A.th.getD i (false, 0)).1 || decide ((A.th.getD i (false, 0)).2 = A.ep)) = true) : A.ready = true := by
  unfold PA.ready
  rw [List.all_eq_true]
  intro x hx
  obtain ⟨i, hi, rfl⟩ := List.mem_iff_getElem.1 hx
  have := h i hi
  rwa [List.getD_eq_getElem?_getD, List.getElem?_eq_getElem hi] at this
theorem PoolAt.epoch {w : World} {p : Nat} {S : List Nat} {A : PA} {tb m : Nat} {M} (h : PoolAt w p S A tb m M) (e : Int) : PoolAt (w.setCell ⟨p, 0, none⟩ (.int .i64 e)) p S { A with ep := e } tb m M := by
  have hf : Fr [p] w (w.setCell ⟨p, 0, none⟩ (.int .i64 e)) := (Fr.refl _ w).setCell (Or.inl (by simp)) _
  have hb := set_block h.blk 0 (.int .i64 e)
  refine ⟨by simpa using hb, h.thr.keep hf (by intro k hk; cases hk; simpa using h.tbp), h.map.keep hf (by simpa using h.mp), h.rows.keep hf (fun e v k hm hk => by simpa using (h.far e v k hm hk).1), h.ps, h.ts, h.ms, tag_frame h.tag hf ⟨_, hb, Or.inl rfl⟩⟩

theorem epoch_advance (w : World) (p : Nat) {S A} (hp : Pool w p S A) (hl : A.th.length ≤ 8) (he0 : 0 ≤ A.ep) (he1 : A.ep ≤ 100000) :
    Calls Try.prog 20 #[.pointer (some ⟨p, 0, none⟩)] w fun e w' => e = .returned (.bool A.ready) ∧ PoolOut w p S A.advance w' := by
  have HP := Lib.hid hp
  obtain ⟨tb, m, M, h⟩ := hp
  obtain ⟨c0, c1, c2, _⟩ := cells3 h.blk
  have H := Lib.hid h
  have hplt := lt_of_block h.blk
  clear h
  go_enter Try.func20, Try.ntmps20
  go_wp2_with fail
  go_loopw [12] (fun i wr => ∃ j : Nat, i = .int .i64 j ∧ j ≤ A.th.length ∧ (∀ i, i < j → (!(A.th.getD i (false, 0)).1 || decide ((A.th.getD i (false, 0)).2 = A.ep)) = true) ∧ Fr [] w wr) (fun i _ => A.th.length - (intOf i).toNat)
  case atStart => exact ⟨0, rfl, Nat.zero_le _, fun i hi => by omega, Fr.refl _ _⟩
  case round =>
    obtain ⟨j, rfl, hj, hok, hf⟩ := hrel
    have hr := H.out.keep hf (by simp)
    obtain ⟨e0, e1, e2, ef⟩ := cells3 hr.blk
    have hplt2 := lt_of_block hr.blk
    have ef0 := ef 0
    have hpn : ¬ p = wr.heap.size := by omega
    have hnp : ¬ wr.heap.size = p := by omega
    by_cases hlt : j < A.th.length
    · obtain ⟨⟨b, s⟩, hat⟩ : ∃ x, A.th[j]? = some x := ⟨_, List.getElem?_eq_getElem hlt⟩
      obtain ⟨r0, r1⟩ := thCells_at _ _ _ _ hat
      obtain ⟨g, off, c, hv, hg, hc, hcells⟩ := hr.thr.here (by omega)
      cases hv
      have htb : tb < wr.heap.size := hr.thr.lt _ rfl
      obtain ⟨d0, f0⟩ := hcells (j * 2) (by omega)
      obtain ⟨d1, f1⟩ := hcells (j * 2 + 1) (by omega)
      rw [r0] at d0
      rw [r1] at d1
      simp only [Nat.zero_add] at d0 d1
      have htn : ¬ tb = wr.heap.size := by omega
      have hnt : ¬ wr.heap.size = tb := by omega
      have HK := Lib.hid hok
      have HF := Lib.hid hf
      have HAT := Lib.hid hat
      have hD : A.th.getD j (false, 0) = (b, s) := by rw [List.getD_eq_getElem?_getD, hat]; rfl
      have HD := Lib.hid hD
      clear hr hok hf hat r0 r1 hcells f0 f1 hD ef
      have t1 : decide ((j : Int) < A.th.length) = true := by simpa using hlt
      cases b
      · go_wp2_with fail
        go_quiet (fail)
        go_wp2
        go_roundw
        case rel =>
          refine ⟨j + 1, by go_num, by omega, fun i hi => ?_, by first | exact (HF.out.alloc _) | exact (HF.out.alloc _).drew | exact (HF.out.alloc _).drewN _⟩
          by_cases hij : i = j
          · subst hij; rw [HD.out]; rfl
          · exact HK.out i (by omega)
        case measure => simp [intOf]; omega
      · by_cases hs : s = A.ep
        · subst hs
          go_wp2_with fail
          go_quiet (fail)
          go_wp2
          go_roundw
          case rel =>
            refine ⟨j + 1, by go_num, by omega, fun i hi => ?_, by first | exact (HF.out.alloc _) | exact (HF.out.alloc _).drew | exact (HF.out.alloc _).drewN _⟩
            by_cases hij : i = j
            · subst hij; rw [HD.out]; simp
            · exact HK.out i (by omega)
          case measure => simp [intOf]; omega
        · have t2 : (s == A.ep) = false := by simpa using hs
          have HS := Lib.hid (ready_no HAT.out hs)
          go_wp2_with fail
          go_quiet (fail)
          go_wp2
          go_ret
          refine ⟨by rw [HS.out]; rfl, ?_⟩
          rw [PA.advance, HS.out]
          exact ⟨S, (HP.out.keep HF.out (by simp)).keep (by first | exact (Fr.refl [] _).alloc _ | exact ((Fr.refl [] _).alloc _).drew | exact ((Fr.refl [] _).alloc _).drewN _) (by simp), (HF.out.mono (by simp)).trans (by first | exact (Fr.refl [] _).alloc _ | exact ((Fr.refl [] _).alloc _).drew | exact ((Fr.refl [] _).alloc _).drewN _) (by simp), fun k hk => Or.inl hk⟩
    · obtain rfl : j = A.th.length := by omega
      have HS := Lib.hid (ready_yes hok)
      have HR := Lib.hid hr
      have HF := Lib.hid hf
      have hwrap : IntKind.i64.wrap (A.ep + 1) = A.ep + 1 := IntWalk.i64_in _ ⟨by omega, by omega⟩
      clear hok hr hf
      go_wp2
      go_ret
      refine ⟨by rw [HS.out]; rfl, ?_⟩
      rw [PA.advance, HS.out, if_pos rfl]
      exact ⟨S, ⟨tb, m, M, HR.out.epoch _⟩, (HF.out.mono (by simp)).setCell (Or.inl HR.out.ps) _, fun k hk => Or.inl hk⟩
theorem epoch_advance_nil (w : World) : Calls Try.prog 20 #[.pointer none] w fun e w' => e = .returned (.bool false) ∧ w = w' := by
  go_enter Try.func20, Try.ntmps20
  go_wp2
  go_ret
  exact ⟨rfl, rfl⟩
end Go.Proofs.Ytphniphlflijeaa
