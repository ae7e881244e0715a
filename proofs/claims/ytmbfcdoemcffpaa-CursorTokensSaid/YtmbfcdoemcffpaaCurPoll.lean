/- PACKAGE cursor: Poll: contract -/
import Derived.Test.YtmbfcdoemcffpaaCurDel
import Derived.Test.YtmbfcdoemcffpaaHistEv
namespace Go.Proofs.Ytmbfcdoemcffpaa
open Go.RowKit
set_option linter.unusedVariables false
set_option linter.unusedSimpArgs false

theorem win_ge (C : Cu) (rev hor most : Int) : 0 ≤ C.win rev hor most := by
  unfold Cu.win; split <;> omega
theorem win_pos {C : Cu} {rev hor most : Int} (h : 0 < C.win rev hor most) : C.dead = false ∧ hor < C.next ∧ C.next - 1 ≤ rev ∧ C.win rev hor most ≤ rev - C.next + 1 := by
  unfold Cu.win at h ⊢
  split at h
  · omega
  · rename_i h1
    rw [if_neg h1]
    simp only [not_or] at h1
    exact ⟨by simpa using h1.1, by omega, by omega, by omega⟩
/-- where the events that it is told lie -/
theorem n_pos {C : Cu} {H : HA} {most : Int} (h : 0 < C.n H most) : ∃ a : Nat, C.next = a + 1 ∧ H.hor ≤ a ∧ a + C.n H most ≤ H.rows.length ∧ ((C.n H most : Nat) : Int) = C.win H.rows.length H.hor most := by
  unfold Cu.n at h ⊢
  have h0 := win_ge C H.rows.length H.hor most
  obtain ⟨h1, h2, h3, h4⟩ := win_pos (C := C) (rev := H.rows.length) (hor := H.hor) (most := most) (by omega)
  exact ⟨(C.next - 1).toNat, by omega, by omega, by omega, by omega⟩
theorem n_win (C : Cu) (H : HA) (most : Int) : C.win H.rows.length H.hor most = ((C.n H most : Nat) : Int) := by
  unfold Cu.n
  have h0 := win_ge C H.rows.length H.hor most
  omega
theorem got_len (C : Cu) (H : HA) (most : Int) : (C.got H most).length = C.n H most := by
  by_cases h : 0 < C.n H most
  · obtain ⟨a, h1, h2, h3, _⟩ := n_pos h
    unfold Cu.got
    exact part_len (by omega) (by omega)
  · have h0 : C.n H most = 0 := by omega
    unfold Cu.got
    rw [h0, part_zero]; rfl
theorem part_step {H : HA} {next : Int} {a j : Nat} {r : List Ev} (hn : next = a + 1) (hr : H.rows[a + j]? = some r) : H.part next (j + 1) = H.part next j ++ [r] := by
  have e : (next - 1).toNat = a := by omega
  unfold HA.part
  rw [e, List.take_add_one, List.getElem?_drop, hr]; rfl
theorem ev_at {H : HA} {a : Nat} {r : List Ev} (h1 : H.hor ≤ a) (hr : H.rows[a]? = some r) : H.evE ((a : Int) + 1) = 0 ∧ H.evL ((a : Int) + 1) = r := by
  have hl : a < H.rows.length := (List.getElem?_eq_some_iff.1 hr).1
  have h2 : H.evE ((a : Int) + 1) = 0 := evE_zero.2 ⟨by omega, by omega⟩
  refine ⟨h2, ?_⟩
  unfold HA.evL
  rw [if_pos h2, List.getD_eq_getElem?_getD, show ((a : Int) + 1).toNat - 1 = a by omega, hr]; rfl
theorem part_few {H : HA} {n : Nat} (hk : HOk H n) (hn : n ≤ 1000) (next : Int) (m : Nat) : RFew (H.part next m) := by
  have h1 := hk.flat
  have h2 := hk.rev
  unfold RFew HA.part many
  refine ⟨by rw [List.length_take, List.length_drop]; omega, ?_⟩
  refine Nat.le_trans (take_flat _ _) ?_
  have h3 : (H.rows.drop (next - 1).toNat).flatten.length ≤ H.rows.flatten.length := by
    conv => rhs; rw [← List.take_append_drop (next - 1).toNat H.rows]
    rw [List.flatten_append, List.length_append]; omega
  omega
def CuPolled (T : List Nat) (C : Cu) (H : HA) (most : Int) (w : World) (e : Ending) (w' : World) : Prop :=
  ∃ v, e = .returned (.tuple #[(C.pollC H most).val, ntV (C.pollN H most) v]) ∧ RowsF T w' v (C.pollN H most).rows ∧ Fr [] w w'
theorem polled_of {T : List Nat} {C : Cu} {H : HA} {most : Int} {w w' : World} {e : Ending} (h : CuDone T C H.rows.length H.hor (C.got H most) w e w') : CuPolled T C H most w e w' := by
  unfold CuDone at h
  rw [got_len] at h
  exact h
set_option maxHeartbeats 4000000 in
theorem cur_poll {w : World} {p : Nat} {S : List Nat} {H : HA} {n : Nat} (T : List Nat) (C : Cu) (most : Int) (h : Hs w p S H) (hk : HOk H n) (hn : n ≤ 1000) (hT : ∀ k ∈ T, k < w.heap.size) (hm : Mid40 C.next) :
    Calls Try.prog 25 #[C.val, .pointer (some ⟨p, 0, none⟩), .int .i64 most] w (CuPolled T C H most w) := by
  have HT := Lib.hid hT
  have HK := Lib.hid hk
  have hrl : H.rows.length ≤ 1000 := by have := hk.rev; omega
  have hhl : H.hor ≤ 1000 := by have := hk.hor; omega
  have HM := Lib.hid hm
  have hmm : -1500000000000 ≤ C.next ∧ C.next ≤ 1500000000000 := hm
  have HHR := Lib.hid fun W (hw : Fr [] w W) => hist_rev (h.keep hw (by simp))
  have HHO := Lib.hid fun W (hw : Fr [] w W) => hist_hor (h.keep hw (by simp))
  have HEV := Lib.hid fun W (hw : Fr [] w W) (r : Int) => hist_evs r (h.keep hw (by simp)) hk hn
  have HWI := Lib.hid fun W => cur_window C 0 H.rows.length H.hor most W ⟨by omega, by omega⟩ ⟨by omega, by omega⟩
  have HDE := Lib.hid fun T W v (hr : RowsIn W v (C.got H most)) (hT : ∀ k ∈ T, k < W.heap.size) => cur_deliver T C 0 H.rows.length H.hor v (C.got H most) W hr hT hm (part_few hk hn _ _)
  have hnw := n_win C H most
  rw [hnw] at HWI
  have hnl : C.n H most ≤ 1000 := by
    by_cases h : 0 < C.n H most
    · obtain ⟨a, h1, h2, h3, _⟩ := n_pos h; omega
    · omega
  have HPO := Lib.hid fun W e => @polled_of T C H most w W e
  clear h hk hT hm hnw
  unfold Cu.val headV at HWI
  unfold CuDone at HDE HPO
  obtain ⟨D, hD⟩ : ∃ D, D = C.then' H.rows.length H.hor (C.got H most).length := ⟨_, rfl⟩
  obtain ⟨N, hN⟩ : ∃ N, N = C.told H.rows.length H.hor (C.got H most) := ⟨_, rfl⟩
  rw [← hD, ← hN] at HDE HPO
  clear hD hN
  unfold Cu.val headV ntV at HDE
  unfold Cu.val ntV at HPO
  unfold Cu.val
  go_enter Try.func25, Try.ntmps25
  go_wp2_with (first
    | (go_at_call 21; refine (HHR.out _ ((((Fr.refl [] w).alloc _).alloc _).alloc _)).mono ?_; rintro e w1 ⟨rfl, rfl⟩)
    | (go_at_call 26; refine (HHO.out _ ((((Fr.refl [] w).alloc _).alloc _).alloc _)).mono ?_; rintro e w1 ⟨rfl, rfl⟩)
    | (go_at_call 15; refine (HWI.out _).mono ?_; rintro e w2 ⟨rfl, h2⟩; refine go_stop ?_))
  unfold Stop
  obtain ⟨p0, p1, p2, p3, ⟨e0, e1, e2, e3⟩, ⟨x0, x1, x2, x3⟩, hz, hf⟩ := four_letters h2
  rw [← e3, ← e2, ← e1, ← e0]
  have X0 := Lib.hid x0
  have X1 := Lib.hid x1
  have X2 := Lib.hid x2
  have X3 := Lib.hid x3
  have HF := Lib.hid hf
  have HZ := Lib.hid hz
  clear h2 e0 e1 e2 e3 x0 x1 x2 x3 hf hz HHR HHO HWI
  go_wp2_with fail
  go_loopw [9, 22] (fun rv i wr => ∃ (j : Nat) (vs : List Value), i = .int .i64 j ∧ j ≤ C.n H most ∧ RB [] w2 wr rv vs (H.part C.next j) ∧ Fr [] w2 wr) (fun _ i _ => C.n H most - (intOf i).toNat)
  case atStart => exact ⟨0, [], rfl, Nat.zero_le _, by rw [part_zero]; exact RB.nil _ _ _, Fr.refl _ _⟩
  case round =>
    obtain ⟨j, vs, rfl, hj, hb, hf⟩ := hrel
    have HB := Lib.hid hb
    have HFR := Lib.hid hf
    obtain ⟨b0, b1, b2, b3, b4, _⟩ := cells5 (hf.keep X0.out (by simp))
    clear hb hf
    by_cases h : j < C.n H most
    · obtain ⟨a, ha, hb1, hb2, hcw⟩ := n_pos (C := C) (H := H) (most := most) (by omega)
      have haj : a + j < H.rows.length := by omega
      obtain ⟨r, hr⟩ : ∃ r, H.rows[a + j]? = some r := ⟨_, List.getElem?_eq_getElem haj⟩
      have hE := ev_at (a := a + j) (by omega) hr
      have hcn : (((a + j : Nat) : Int)) + 1 = C.next + j := by rw [ha]; omega
      rw [hcn] at hE
      have HST := Lib.hid (part_step (next := C.next) ha hr)
      have HEA := Lib.hid (HEV.out _ (HF.out.trans HFR.out (by simp)) (C.next + j))
      rw [hE.1, hE.2] at HEA
      have t1 : decide (j < C.n H most) = true := by simpa using h
      have hpl : (H.part C.next j).length = j := part_len (by omega) (by omega)
      have HPL := Lib.hid hpl
      have q1 : IntKind.i64.wrap (C.next + j) = C.next + j := by simp only [IntKind.wrap, IntKind.signed, IntKind.bits]; simp; omega
      have hj9 : j ≤ 1000 := by omega
      clear hcw ha hb1 hb2 haj hr hE hcn hpl
      go_wp2_with (go_at_call 30; refine HEA.out.mono ?_; rintro e w3 ⟨v, rfl, h1, h2, h3⟩; refine go_stop ?_)
      unfold Stop
      obtain ⟨sv, cv, hv, _, _⟩ := h1.form
      subst hv
      have HFAR := Lib.hid (HB.out.far_new (by simp) h1.lin h2)
      have HB3 := Lib.hid (HB.out.keep h3)
      have HF3 := Lib.hid (HFR.out.trans h3 (by simp))
      clear h1 h2 h3 b0 b1 b2 b3 b4 HEA
      go_wp2_with (at_builtin; refine wpList_append_any rfl (.tmp 34) (.tmp 36) 28 30 (.slice none 0 0) 1 24 rfl row_slice row_info rfl (by decide) _ j vs rfl (by have q := HB3.out.lies.keep ((Fr.refl [] w3).alloc (.cells #[.slice sv r.length cv] 30)) (by simp); rw [HPL.out] at q; exact q) _ 1 [.slice sv r.length cv] rfl (lies_row w3 30 [.slice sv r.length cv] rfl _ rfl) (by intro y hy; simp at hy; subst hy; rfl) (by unfold maxLen; omega) (by omega) ?app)
      case app =>
      intro vb w5 h1 h2 h3
      have hal : Fr [] w3 (w3.alloc (.cells #[.slice sv r.length cv] 30)) := (Fr.refl [] w3).alloc _
      have HR5 := Lib.hid ((HB3.out.keep hal).app (B := w3.heap.size + 1) (Nat.le_trans HF3.out.size (by omega)) (by simp) (by simp) (HFAR.out.keep0 hal) (by rw [HPL.out]; exact h1) h2 h3)
      have HF5 := Lib.hid ((HB3.out.keep hal).fr (HF3.out.trans hal (by simp)) h2)
      clear h1 h2 h3 hal
      go_wp2_with fail
      go_roundw
      case rel => exact ⟨j + 1, _, by go_num, by omega, by rw [HST.out]; exact HR5.out, HF5.out⟩
      case measure => simp [intOf]; omega
    · have t1 : decide (j < C.n H most) = false := by simpa using h
      have hj2 : j = C.n H most := by omega
      subst hj2
      have HG : Hid (RowsIn wr u9 (C.got H most)) := Lib.hid HB.out.rowsIn
      have hsr := HFR.out.size
      have HTT : Hid (∀ k ∈ [p1, p2] ++ T, k < wr.heap.size) := Lib.hid (fun k hk => by
        rcases List.mem_append.1 hk with hk | hk
        · have := HZ.out; simp at hk; omega
        · have := HT.out k hk; have := HF.out.size; omega)
      obtain ⟨c0, c1, c2, _⟩ := cells3 (HFR.out.keep X3.out (by simp))
      clear hsr
      go_wp2_with (go_at_call 9; refine (HDE.out ([p1, p2] ++ T) _ _ HG.out HTT.out).mono ?_; rintro e w7 ⟨v, rfl, h1, h2⟩; refine go_stop ?_)
      unfold Stop
      obtain ⟨sv, cv, hv, _, _⟩ := h1.form
      subst hv
      have H1 := Lib.hid h1
      have HF7 := Lib.hid ((HF.out.trans HFR.out (by simp)).trans h2 (by simp))
      obtain ⟨d0, d1, d2, d3, d4, df⟩ := cells5 (h2.keep (HFR.out.keep X1.out (by simp)) (by simp))
      obtain ⟨e0, e1, e2, e3, ef⟩ := cells4 (h2.keep (HFR.out.keep X2.out (by simp)) (by simp))
      have df0 := df 0
      have df1 := df 1
      have df2 := df 2
      have df3 := df 3
      have df4 := df 4
      have ef0 := ef 0
      have ef1 := ef 1
      have ef2 := ef 2
      have ef3 := ef 3
      have m1 : ¬ p1 = p2 := by have := HZ.out; omega
      have m2 : ¬ p2 = p1 := by have := HZ.out; omega
      clear h1 h2 df ef b0 b1 b2 b3 b4 c0 c1 c2
      go_wp2_with fail
      refine bodyPost_ret (v := .tuple #[.agg #[.string D.f, .string D.t, .int .i64 D.next, .bool D.once, .bool D.dead], .agg #[.int .i64 N.err, .int .i64 N.hor, .int .i64 N.upto, .slice sv N.rows.length cv]]) (by simp [results, Try.results25, go_sem, *]) rfl ?_
      have hst : ∀ W : World, Fr [p1, p2] w7 W → RowsF T W (.slice sv N.rows.length cv) N.rows ∧ Fr [] w W := fun W h =>
        ⟨(H1.out.keep (h.mono (fun k hk => Or.inl (List.mem_append.2 (Or.inl hk))))).sub (fun k hk => List.mem_append.2 (Or.inr hk)), HF7.out.trans h (fun k hk => Or.inr (by have := HZ.out; simp at hk; omega))⟩
      refine HPO.out _ _ ⟨_, rfl, hst _ ?_⟩
      with_reducible (repeat (first | exact Fr.refl _ _ | refine Fr.drew ?_ | refine Fr.setCell ?_ (Or.inl (by simp)) _))
end Go.Proofs.Ytmbfcdoemcffpaa
