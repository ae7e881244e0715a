/- PACKAGE cursor: Deliver: contract -/
import Derived.Test.YtmbfcdoemcffpaaCur2
import Derived.Test.YtmbfcdoemcffpaaCur1
namespace Go.Proofs.Ytmbfcdoemcffpaa
open Go.RowKit
set_option linter.unusedVariables false
set_option linter.unusedSimpArgs false

def Mid40 (x : Int) : Prop := -1500000000000 ≤ x ∧ x ≤ 1500000000000
def CuDone (T : List Nat) (C : Cu) (rev hor : Int) (rows : List (List Ev)) (w : World) (e : Ending) (w' : World) : Prop :=
  ∃ v, e = .returned (.tuple #[(C.then' rev hor rows.length).val, ntV (C.told rev hor rows) v]) ∧ RowsF T w' v (C.told rev hor rows).rows ∧ Fr [] w w'
/-- one that isn't told anything, at the end -/
theorem cur_no {T : List Nat} {C : Cu} {rev hor : Int} {rows : List (List Ev)} {w W : World} {E : Int} (hE : E = C.refE rev hor) (h0 : E ≠ 0) (h5 : E ≠ 5) (hf : Fr [] w W) :
    CuDone T C rev hor rows w (.returned (.tuple #[.agg #[.string C.f, .string C.t, .int .i64 C.next, .bool C.once, .bool C.dead], .agg #[.int .i64 E, .int .i64 0, .int .i64 0, .slice none 0 0]])) W := by
  unfold Cu.refE at hE
  refine ⟨.slice none 0 0, ?_, ?_, hf⟩
  · unfold Cu.then' Cu.told Cu.val ntV
    by_cases h1 : C.dead = true
    · rw [if_pos h1] at hE
      rw [if_pos h1, if_pos h1, hE]
    · rw [if_neg h1] at hE
      by_cases h2 : C.next ≤ hor
      · rw [if_pos h2] at hE; exact absurd hE h5
      · rw [if_neg h2] at hE
        by_cases h3 : rev < C.next - 1
        · rw [if_pos h3] at hE
          rw [if_neg h1, if_neg h2, if_pos h3, if_neg h1, if_neg h2, if_pos h3, hE]
        · rw [if_neg h3] at hE; exact absurd hE h0
  · unfold Cu.told
    by_cases h1 : C.dead = true
    · rw [if_pos h1]; exact RowsF.nil _ _
    · rw [if_neg h1]
      by_cases h2 : C.next ≤ hor
      · rw [if_pos h2]; exact RowsF.nil _ _
      · rw [if_neg h2]
        by_cases h3 : rev < C.next - 1
        · rw [if_pos h3]; exact RowsF.nil _ _
        · rw [if_neg h1, if_neg h2, if_neg h3] at hE; exact absurd hE h0
theorem cur_old {T : List Nat} {C : Cu} {rev hor : Int} {rows : List (List Ev)} {w W : World} {E : Int} (hE : E = C.refE rev hor) (h5 : E = 5) (hf : Fr [] w W) :
    CuDone T C rev hor rows w (.returned (.tuple #[.agg #[.string C.f, .string C.t, .int .i64 C.next, .bool C.once, .bool true], .agg #[.int .i64 5, .int .i64 hor, .int .i64 0, .slice none 0 0]])) W := by
  unfold Cu.refE at hE
  have h1 : ¬ C.dead = true := fun h => by rw [if_pos h] at hE; omega
  rw [if_neg h1] at hE
  have h2 : C.next ≤ hor := by
    by_cases h2 : C.next ≤ hor
    · exact h2
    · rw [if_neg h2] at hE
      split at hE <;> omega
  refine ⟨.slice none 0 0, ?_, ?_, hf⟩
  · unfold Cu.then' Cu.told Cu.val ntV
    rw [if_neg h1, if_pos h2, if_neg h1, if_pos h2]
  · unfold Cu.told
    rw [if_neg h1, if_pos h2]; exact RowsF.nil _ _
theorem cur_yes {T : List Nat} {C : Cu} {rev hor : Int} {rows : List (List Ev)} {w W : World} {v : Value} {E : Int} (hE : E = C.refE rev hor) (h0 : E = 0) (hv : RowsF T W v (C.tell rows)) (hf : Fr [] w W) :
    CuDone T C rev hor rows w (.returned (.tuple #[.agg #[.string C.f, .string C.t, .int .i64 (C.next + rows.length), .bool C.once, .bool C.dead], .agg #[.int .i64 0, .int .i64 0, .int .i64 (C.next + rows.length - 1), v]])) W := by
  obtain ⟨h1, h2, h3⟩ := ref_zero (hE.symm.trans h0)
  have h1 : ¬ C.dead = true := by rw [h1]; simp
  refine ⟨v, ?_, ?_, hf⟩
  · unfold Cu.then' Cu.told Cu.val ntV
    rw [if_neg h1, if_neg h2, if_neg h3, if_neg h1, if_neg h2, if_neg h3]
  · unfold Cu.told
    rw [if_neg h1, if_neg h2, if_neg h3]; exact hv
set_option maxHeartbeats 4000000 in
theorem cur_deliver (T : List Nat) (C : Cu) (seq rev hor : Int) (rv : Value) (rows : List (List Ev)) (w : World) (hr : RowsIn w rv rows) (hT : ∀ k ∈ T, k < w.heap.size) (hm : Mid40 C.next) (bR : RFew rows) :
    Calls Try.prog 9 #[C.val, headV seq rev hor, rv] w (CuDone T C rev hor rows w) := by
  have hn : Few40 C.next := ⟨by have := hm.1; omega, by have := hm.2; omega⟩
  have HT := Lib.hid hT
  have HR := Lib.hid hr
  have HBR := Lib.hid bR
  have bl : rows.length ≤ 1000000000 := bR.1
  obtain ⟨s1, c1, rfl, la, ma⟩ := hr.form
  unfold maxLen at ma
  obtain ⟨E, hE⟩ : ∃ E, E = C.refE rev hor := ⟨_, rfl⟩
  have HRZ := Lib.hid hE
  have CR := Lib.hid fun W => cur_refusal C seq rev hor W hn
  rw [← hE] at CR
  have HNO := Lib.hid fun W => @cur_no T C rev hor rows w W E hE
  have HOL := Lib.hid fun W => @cur_old T C rev hor rows w W E hE
  have HYE := Lib.hid fun W v => @cur_yes T C rev hor rows w W v E hE
  have CL := Lib.hid fun W (h : Few40 (C.next + rows.length)) => cur_last ⟨C.f, C.t, C.next + rows.length, C.once, C.dead⟩ W h
  have CW := Lib.hid fun T W (h : RowsIn W (.slice s1 rows.length c1) rows) (hT : ∀ k ∈ T, k < W.heap.size) => cur_wanted T ⟨C.f, C.t, C.next + rows.length, C.once, C.dead⟩ (.slice s1 rows.length c1) rows W h hT bR
  have hnn : -1500000000000 ≤ C.next ∧ C.next ≤ 1500000000000 := hm
  have q1 : IntKind.i64.wrap (C.next + rows.length) = C.next + rows.length := by simp only [IntKind.wrap, IntKind.signed, IntKind.bits]; simp; omega
  have HNN := Lib.hid hnn
  clear hn hm hnn hr hT bR hE
  obtain ⟨f, t, next, once, dead⟩ := C
  unfold Cu.val at CR CL CW
  unfold headV at CR
  unfold Cu.val headV
  dsimp only at CR CL CW q1 HNO HOL HYE
  go_enter Try.func9, Try.ntmps9
  by_cases h5 : E = 5
  · subst h5
    go_wp2_with (go_at_call 35; refine (CR.out _).mono ?_; rintro e w1 ⟨rfl, h1⟩; refine go_stop ?_)
    unfold Stop
    obtain ⟨p0, p1, p2, p3, ⟨e0, e1, e2, e3⟩, ⟨x0, x1, x2, x3⟩, hz, hf⟩ := four_letters h1
    rw [← e3, ← e2, ← e1, ← e0]
    have X0 := Lib.hid x0
    have X1 := Lib.hid x1
    have X2 := Lib.hid x2
    have X3 := Lib.hid x3
    have HF := Lib.hid hf
    have HZ := Lib.hid hz
    obtain ⟨b0, b1, b2, b3, b4, bf⟩ := cells5 X0.out
    have bf3 := bf 3
    have bf4 := bf 4
    clear h1 e0 e1 e2 e3 x0 x1 x2 x3 hf bf CL CW CR HNO HYE
    go_wp2_with fail
    obtain ⟨wS, hwS⟩ : ∃ x, x = w1.setCell ⟨p0, 4, none⟩ (.bool true) := ⟨_, rfl⟩
    have y0 : wS.heap[p0]? = some (.cells #[.string f, .string t, .int .i64 next, .bool once, .bool true] 31 (0, 0)) := by
      rw [hwS]
      have := set_block X0.out 4 (.bool true)
      simpa using this
    have hfs : Fr [p0] w1 wS := by rw [hwS]; exact (Fr.refl _ _).setCell (Or.inl (by simp)) _
    have y1 := hfs.keep X1.out (by simp; omega)
    have y2 := hfs.keep X2.out (by simp; omega)
    have y3 := hfs.keep X3.out (by simp; omega)
    have HFS := Lib.hid hfs
    rw [← hwS]
    clear b0 b1 b2 b3 b4 bf3 bf4
    obtain ⟨b0, b1, b2, b3, b4, bf⟩ := cells5 y0
    obtain ⟨c0, c1, c2, cf⟩ := cells3 y1
    obtain ⟨d0, d1, d2, d3, d4, df⟩ := cells5 y2
    obtain ⟨e0, e1, e2, e3, ef⟩ := cells4 y3
    have df0 := df 0
    have df1 := df 1
    have df2 := df 2
    have df3 := df 3
    have df4 := df 4
    have ef0 := ef 0
    have ef1 := ef 1
    have ef2 := ef 2
    have ef3 := ef 3
    have n1 : ¬ p0 = p2 := by omega
    have n2 : ¬ p2 = p0 := by omega
    have n3 : ¬ p0 = p3 := by omega
    have n4 : ¬ p3 = p0 := by omega
    have n5 : ¬ p1 = p2 := by omega
    have n6 : ¬ p2 = p1 := by omega
    have n7 : ¬ p1 = p3 := by omega
    have n8 : ¬ p3 = p1 := by omega
    have n9 : ¬ p2 = p3 := by omega
    have n10 : ¬ p3 = p2 := by omega
    clear y0 y1 y2 y3 hwS hfs bf cf df ef
    go_region_held3 (fun W => W.cell? ⟨p0, 0, none⟩ = some (.string f) ∧ W.cell? ⟨p0, 1, none⟩ = some (.string t) ∧ W.cell? ⟨p0, 2, none⟩ = some (.int .i64 next) ∧ W.cell? ⟨p0, 3, none⟩ = some (.bool once) ∧ W.cell? ⟨p0, 4, none⟩ = some (.bool true) ∧ W.cell? ⟨p1, 2, none⟩ = some (.int .i64 hor)) (go_keep) (fail)
    all_goals go_wp2_with fail
    all_goals refine bodyPost_ret (v := .tuple #[.agg #[.string f, .string t, .int .i64 next, .bool once, .bool true], .agg #[.int .i64 5, .int .i64 hor, .int .i64 0, .slice none 0 0]]) (by simp [results, Try.results9, go_sem, *]) rfl ?_
    all_goals
      have hfx : ∀ W : World, Fr [p2, p3] wS W → Fr [] w W := fun W h => (HF.out.trans HFS.out (fun k hk => Or.inr (by simp at hk; omega))).trans h (fun k hk => Or.inr (by simp at hk; omega))
      refine HOL.out _ (by trivial) (hfx _ ?_)
      with_reducible (repeat (first | exact Fr.refl _ _ | refine Fr.drew ?_ | refine Fr.setCell ?_ (Or.inl (by simp)) _))
  · have t5 : (E == 5) = false := by simpa using h5
    have H5 := Lib.hid h5
    by_cases h0 : E = 0
    · subst h0
      go_wp2_with (go_at_call 35; refine (CR.out _).mono ?_; rintro e w1 ⟨rfl, h1⟩; have H1 := Lib.hid h1; obtain ⟨x0, _, _, _, _⟩ := four_boxes h1; obtain ⟨b0, b1, b2, b3, b4, bf⟩ := cells5 x0; have bf2 := bf 2; clear h1 x0 bf)
      obtain ⟨p0, p1, p2, p3, ⟨e0, e1, e2, e3⟩, ⟨x0, x1, x2, x3⟩, hz, hf⟩ := four_letters H1.out
      rw [← e3, ← e2, ← e1, ← e0]
      obtain ⟨wS, hwS⟩ : ∃ x, x = w1.setCell ⟨p0, 2, none⟩ (.int .i64 (next + rows.length)) := ⟨_, rfl⟩
      have y0 : wS.heap[p0]? = some (.cells #[.string f, .string t, .int .i64 (next + rows.length), .bool once, .bool dead] 31 (0, 0)) := by
        rw [hwS]
        have := set_block x0 2 (.int .i64 (next + rows.length))
        simpa using this
      have hfs : Fr [p0] w1 wS := by rw [hwS]; exact (Fr.refl _ _).setCell (Or.inl (by simp)) _
      have y2 := hfs.keep x2 (by simp; omega)
      have y3 := hfs.keep x3 (by simp; omega)
      have HWS := Lib.hid (hf.trans hfs (fun k hk => Or.inr (by simp at hk; omega)))
      rw [← hwS]
      have Y0 := Lib.hid y0
      have Y2 := Lib.hid y2
      have Y3 := Lib.hid y3
      have HZ := Lib.hid hz
      have hsz : p3 < wS.heap.size := lt_of_block y3
      have HTS : Hid (∀ W, Fr [p2] wS W → RowsIn W (.slice s1 rows.length c1) rows ∧ ∀ k ∈ [p2, p3] ++ T, k < W.heap.size) := Lib.hid (fun W hW => by
        have h1 : Fr [] w W := HWS.out.trans hW (fun k hk => Or.inr (by simp at hk; omega))
        refine ⟨HR.out.keep0 h1, fun k hk => ?_⟩
        rcases List.mem_append.1 hk with hk | hk
        · have := hW.size; simp at hk; omega
        · have := HT.out k hk; have := h1.size; omega)
      have HFW40 : Hid (Few40 (next + rows.length)) := Lib.hid (by have := HNN.out; unfold Few40; omega)
      clear b0 b1 b2 b3 b4 bf2 x0 x1 x2 x3 y0 y2 y3 hwS hfs hf e0 e1 e2 e3 H1
      obtain ⟨b0, b1, b2, b3, b4, _⟩ := cells5 Y0.out
      obtain ⟨d0, d1, d2, d3, d4, df⟩ := cells5 Y2.out
      obtain ⟨e0, e1, e2, e3, ef⟩ := cells4 Y3.out
      have df0 := df 0
      have df1 := df 1
      have df2 := df 2
      have df3 := df 3
      have df4 := df 4
      have ef0 := ef 0
      have ef1 := ef 1
      have ef2 := ef 2
      have ef3 := ef 3
      have n1 : ¬ p0 = p2 := by omega
      have n2 : ¬ p2 = p0 := by omega
      have n3 : ¬ p0 = p3 := by omega
      have n4 : ¬ p3 = p0 := by omega
      have n9 : ¬ p2 = p3 := by omega
      have n10 : ¬ p3 = p2 := by omega
      clear df ef
      go_region_held3 (fun W => W.cell? ⟨p0, 0, none⟩ = some (.string f) ∧ W.cell? ⟨p0, 1, none⟩ = some (.string t) ∧ W.cell? ⟨p0, 2, none⟩ = some (.int .i64 (next + rows.length)) ∧ W.cell? ⟨p0, 3, none⟩ = some (.bool once) ∧ W.cell? ⟨p0, 4, none⟩ = some (.bool dead)) (go_keep) (first
        | (go_at_call 36; refine (CL.out _ HFW40.out).mono ?_; rintro e wL ⟨rfl, hL⟩; (try have QVL : Hid (Fr [p2] wV wL) := Lib.hid (Fr.trans (by with_reducible (repeat (first | exact Fr.refl _ _ | refine Fr.drew ?_ | refine Fr.setCell ?_ (Or.inl (by simp)) _))) hL (by simp))); have QL : Hid (Fr [p2] wS wL) := Lib.hid (Fr.trans (by with_reducible (repeat (first | exact Fr.refl _ _ | exact QL.out | exact QV.out | refine Fr.drew ?_ | refine Fr.setCell ?_ (Or.inl (by simp)) _))) hL (by simp)); (first | (have P2L := Lib.hid (hL.keep (by with_reducible (first | exact Y2.out | exact drew_block Y2.out | exact P2L.out | exact P2V.out)) (by simp))) | (have P2L := Lib.hid (hL.keep (by with_reducible (first | exact set5_block Y2.out _ _ _ _ _ | exact drew_block (set5_block Y2.out _ _ _ _ _) | exact set5_block (drew_block Y2.out) _ _ _ _ _ | exact set5_block P2L.out _ _ _ _ _ | exact set5_block P2V.out _ _ _ _ _)) (by simp)))); obtain ⟨b0, b1, b2, b3, b4, _⟩ := cells5 (QL.out.keep Y0.out (by simp; omega)); obtain ⟨d0, d1, d2, d3, d4, df⟩ := cells5 P2L.out; obtain ⟨e0, e1, e2, e3, ef⟩ := cells4 (QL.out.keep Y3.out (by simp; omega)); have df0 := df 0; have df1 := df 1; have df2 := df 2; have df3 := df 3; have df4 := df 4; have ef0 := ef 0; have ef1 := ef 1; have ef2 := ef 2; have ef3 := ef 3; clear df ef; clear hL)
        | (go_at_call 37; refine (CW.out ([p2, p3] ++ T) _ (HTS.out _ (by with_reducible (repeat (first | exact Fr.refl _ _ | exact QL.out | exact QV.out | refine Fr.drew ?_ | refine Fr.setCell ?_ (Or.inl (by simp)) _)))).1 (HTS.out _ (by with_reducible (repeat (first | exact Fr.refl _ _ | exact QL.out | exact QV.out | refine Fr.drew ?_ | refine Fr.setCell ?_ (Or.inl (by simp)) _)))).2).mono ?_; rintro e wV ⟨v, rfl, hrv, hV⟩; have HRV := Lib.hid hrv; obtain ⟨sv, cv, hv, _, _⟩ := hrv.form; subst hv; have QV : Hid (Fr [p2] wS wV) := Lib.hid (Fr.trans (by with_reducible (repeat (first | exact Fr.refl _ _ | exact QL.out | exact QV.out | refine Fr.drew ?_ | refine Fr.setCell ?_ (Or.inl (by simp)) _))) hV (by simp)); (first | (have P2V := Lib.hid (hV.keep (by with_reducible (first | exact Y2.out | exact drew_block Y2.out | exact P2L.out | exact P2V.out)) (by simp))) | (have P2V := Lib.hid (hV.keep (by with_reducible (first | exact set5_block Y2.out _ _ _ _ _ | exact drew_block (set5_block Y2.out _ _ _ _ _) | exact set5_block (drew_block Y2.out) _ _ _ _ _ | exact set5_block P2L.out _ _ _ _ _ | exact set5_block P2V.out _ _ _ _ _)) (by simp)))); obtain ⟨b0, b1, b2, b3, b4, _⟩ := cells5 (QV.out.keep Y0.out (by simp; omega)); obtain ⟨d0, d1, d2, d3, d4, df⟩ := cells5 P2V.out; obtain ⟨e0, e1, e2, e3, ef⟩ := cells4 (QV.out.keep Y3.out (by simp; omega)); have df0 := df 0; have df1 := df 1; have df2 := df 2; have df3 := df 3; have df4 := df 4; have ef0 := ef 0; have ef1 := ef 1; have ef2 := ef 2; have ef3 := ef 3; clear df ef; clear hV hrv))
      all_goals go_wp2_with fail
      all_goals refine bodyPost_ret (v := .tuple #[.agg #[.string f, .string t, .int .i64 (next + rows.length), .bool once, .bool dead], .agg #[.int .i64 0, .int .i64 0, .int .i64 (next + rows.length - 1), .slice sv (Cu.tell ⟨f, t, next + rows.length, once, dead⟩ rows).length cv]]) (by simp [results, Try.results9, go_sem, *]) rfl ?_
      all_goals
        have hrw : ∀ W : World, Fr [p2, p3] wV W → RowsF T W (.slice sv (Cu.tell ⟨f, t, next + rows.length, once, dead⟩ rows).length cv) (Cu.tell ⟨f, t, next, once, dead⟩ rows) := fun W h => (HRV.out.keep (h.mono (fun k hk => Or.inl (List.mem_append.2 (Or.inl hk))))).sub (fun k hk => List.mem_append.2 (Or.inr hk))
        have hfw : ∀ W : World, Fr [p2, p3] wS W → Fr [] w W := fun W h => HWS.out.trans h (fun k hk => Or.inr (by have := HZ.out; simp at hk; omega))
        refine HYE.out _ _ (by trivial) (hrw _ ?_) (hfw _ ?_)
      all_goals with_reducible (repeat (first | exact Fr.refl _ _ | exact QVL.out.mono (by simp) | exact QL.out.mono (by simp) | exact QV.out.mono (by simp) | refine Fr.drew ?_ | refine Fr.setCell ?_ (Or.inl (by simp)) _))
    · have t0 : (E != 0) = true := by simpa using h0
      have H0 := Lib.hid h0
      clear h5 h0
      go_wp2_with (go_at_call 35; refine (CR.out _).mono ?_; rintro e w1 ⟨rfl, h1⟩; have H2 := Lib.hid h1; obtain ⟨x0, x1, x2, x3, hf⟩ := four_boxes H2.out; have HF := Lib.hid hf; obtain ⟨b0, b1, b2, b3, b4, _⟩ := cells5 x0; obtain ⟨d0, d1, d2, d3, d4, df⟩ := cells5 x2; obtain ⟨e0, e1, e2, e3, ef⟩ := cells4 x3; have df0 := df 0; have df1 := df 1; have df2 := df 2; have df3 := df 3; have df4 := df 4; have ef0 := ef 0; have ef1 := ef 1; have ef2 := ef 2; have ef3 := ef 3; clear h1 hf x0 x1 x2 x3 df ef)
      refine bodyPost_ret (v := .tuple #[.agg #[.string f, .string t, .int .i64 next, .bool once, .bool dead], .agg #[.int .i64 E, .int .i64 0, .int .i64 0, .slice none 0 0]]) (by simp [results, Try.results9, go_sem, *]) rfl ?_
      exact HNO.out _ H0.out H5.out (Fr.set4 (Fr.set5 HF.out (by omega) _ _ _ _ _) (by omega) _ _ _ _)
end Go.Proofs.Ytmbfcdoemcffpaa
