/- THE DOCUMENT's Deliver (impostref10): its contract
THE DOCUMENT's Deliver (impostref10): of a watch that is told: its contract -/
import Derived.Test.YtmbfcdoemcffpaaCuRef
import Derived.Deep.RegionLaw
namespace Go.Proofs.Ytmbfcdoemcffpaa
open Go.RowKit
set_option linter.unusedVariables false
set_option linter.unusedSimpArgs false

def RfDone (C : Cu) (rev hor : Int) (rows : List (List Ev)) (w : World) (e : Ending) (w' : World) : Prop :=
  ∃ v, e = .returned (.tuple #[(C.then' rev hor rows.length).val, ntV (C.told rev hor rows) v]) ∧ RowsIn w' v (C.told rev hor rows).rows ∧ Fr [] w w'
set_option maxHeartbeats 1000000 in
/-- one that isn't told anything -/
theorem rcu_refuse (C : Cu) (seq rev hor : Int) (rv : Value) (rows : List (List Ev)) (w : World) (hr : RowsIn w rv rows) (hn : Few40 C.next) (hb : C.dead = true ∨ C.next ≤ hor ∨ rev < C.next - 1) :
    Calls Try.prog 11 #[C.val, headV seq rev hor, rv] w (RfDone C rev hor rows w) := by
  have HN := Lib.hid hn
  obtain ⟨s1, c1, rfl, la, ma⟩ := hr.form
  unfold maxLen at ma
  obtain ⟨f, t, next, once, dead⟩ := C
  unfold Cu.val headV
  have HB := Lib.hid hb
  clear hn hr hb
  obtain ⟨o, ho⟩ : ∃ o, o = decide (next ≤ hor) := ⟨_, rfl⟩
  obtain ⟨a, ha⟩ : ∃ a, a = decide (rev < next - 1) := ⟨_, rfl⟩
  have CO := Lib.hid fun W => rcu_old ⟨f, t, next, once, dead⟩ seq rev hor W
  have CA := Lib.hid fun W => rcu_ahead ⟨f, t, next, once, dead⟩ seq rev hor W HN.out
  unfold Cu.val headV at CO CA
  rw [← ho] at CO
  rw [← ha] at CA
  have HO := Lib.hid ho
  have HA := Lib.hid ha
  clear ho ha
  go_enter Try.func11, Try.ntmps11
  cases dead with
  | true =>
    go_wp2_with fail
    refine bodyPost_ret (v := .tuple #[.agg #[.string f, .string t, .int .i64 next, .bool once, .bool true], .agg #[.int .i64 4, .int .i64 0, .int .i64 0, .slice none 0 0]]) (by simp [results, Try.results11, go_sem, *]) rfl ⟨.slice none 0 0, ?_, ?_, ((((Fr.refl [] w).alloc _).alloc _).alloc _).alloc _⟩
    · unfold Cu.then' Cu.told Cu.val ntV
      rfl
    · unfold Cu.told
      exact RowsIn.nil _
  | false =>
    cases o with
    | true =>
      go_wp2_with (go_at_call 38; refine (CO.out _).mono ?_; rintro e w1 ⟨rfl, h1⟩; have H1 := Lib.hid h1; obtain ⟨x0, x1, x2, x3, _⟩ := four_boxes h1; have X0 := Lib.hid x0; obtain ⟨b0, b1, b2, b3, b4, bf⟩ := cells5 x0; have bf4 := bf 4; clear h1 x0 x1 x2 x3 bf)
      obtain ⟨p0, p1, p2, p3, ⟨q0, q1, q2, q3⟩, ⟨x0, x1, x2, x3⟩, ⟨z0, z1, z2, z3, z4⟩, hf⟩ := four_letters H1.out
      clear H1 X0 CO CA b0 b1 b2 b3 b4 bf4
      rw [← q3, ← q2, ← q1, ← q0]
      obtain ⟨wS, hwS⟩ : ∃ x, x = w1.setCell ⟨p0, 4, none⟩ (.bool true) := ⟨_, rfl⟩
      have y0 : wS.heap[p0]? = some (.cells #[.string f, .string t, .int .i64 next, .bool once, .bool true] 25 (0, 0)) := by
        rw [hwS]
        have := set_block x0 4 (.bool true)
        simpa using this
      have hfs : Fr [p0] w1 wS := by rw [hwS]; exact (Fr.refl _ _).setCell (Or.inl (by simp)) _
      have y1 := hfs.keep x1 (by simp; omega)
      have y2 := hfs.keep x2 (by simp; omega)
      have y3 := hfs.keep x3 (by simp; omega)
      have HFS := Lib.hid hfs
      have HF := Lib.hid hf
      rw [← hwS]
      obtain ⟨b0, b1, b2, b3, b4, bf⟩ := cells5 y0
      obtain ⟨c0, c1, c2, cf⟩ := cells3 y1
      obtain ⟨d0, d1, d2, d3, d4, df⟩ := cells5 y2
      obtain ⟨e0, e1, e2, e3, ef⟩ := cells4 y3
      have df0 := df 0
      have df1 := df 1
      have df2 := df 2
      have df3 := df 3
      have df4 := df 4
      have ef0 := ef 0
      have ef1 := ef 1
      have ef2 := ef 2
      have ef3 := ef 3
      have n1 : ¬ p0 = p2 := by omega
      have n2 : ¬ p2 = p0 := by omega
      have n3 : ¬ p0 = p3 := by omega
      have n4 : ¬ p3 = p0 := by omega
      have n5 : ¬ p1 = p2 := by omega
      have n6 : ¬ p2 = p1 := by omega
      have n7 : ¬ p1 = p3 := by omega
      have n8 : ¬ p3 = p1 := by omega
      have n9 : ¬ p2 = p3 := by omega
      have n10 : ¬ p3 = p2 := by omega
      clear x0 x1 x2 x3 y0 y1 y2 y3 hwS hfs hf q0 q1 q2 q3 bf cf df ef
      go_region_held3 (fun W => W.cell? ⟨p0, 0, none⟩ = some (.string f) ∧ W.cell? ⟨p0, 1, none⟩ = some (.string t) ∧ W.cell? ⟨p0, 2, none⟩ = some (.int .i64 next) ∧ W.cell? ⟨p0, 3, none⟩ = some (.bool once) ∧ W.cell? ⟨p0, 4, none⟩ = some (.bool true) ∧ W.cell? ⟨p1, 2, none⟩ = some (.int .i64 hor)) (go_keep) (fail)
      all_goals go_wp2_with fail
      all_goals refine bodyPost_ret (v := .tuple #[.agg #[.string f, .string t, .int .i64 next, .bool once, .bool true], .agg #[.int .i64 5, .int .i64 hor, .int .i64 0, .slice none 0 0]]) (by simp [results, Try.results11, go_sem, *]) rfl ?_
      all_goals
        have ho : next ≤ hor := by have := HO.out; simpa using this.symm
        refine ⟨.slice none 0 0, ?_, ?_, ((Fr.set4 (Fr.set5 (HF.out.trans HFS.out (fun k hk => Or.inr (by simp at hk; omega))) (by omega) _ _ _ _ _) (by omega) _ _ _ _)).drew⟩
        · unfold Cu.then' Cu.told Cu.val ntV
          rw [if_neg (by simp), if_pos ho, if_neg (by simp), if_pos ho]
        · unfold Cu.told
          rw [if_neg (by simp), if_pos ho]
          exact RowsIn.nil _
    | false =>
      have ha : a = true := by
        have h1 := HB.out
        have h2 := HO.out
        have h3 := HA.out
        rw [h3]
        simp at h1 h2 ⊢; omega
      subst ha
      go_wp2_with (first | (go_at_call 38; refine (CO.out _).mono ?_; rintro e w1 ⟨rfl, h1⟩; have H1 := Lib.hid h1; obtain ⟨x0, x1, _, _, _⟩ := four_boxes h1; obtain ⟨b0, b1, b2, b3, b4, _⟩ := cells5 x0; obtain ⟨c0, c1, c2, _⟩ := cells3 x1; clear h1 x0 x1) | (go_at_call 39; refine (CA.out _).mono ?_; rintro e w2 ⟨rfl, h2⟩; have H2 := Lib.hid (H1.out.trans h2 (by simp)); obtain ⟨x0, x1, x2, x3, hf⟩ := four_boxes H2.out; have HF := Lib.hid hf; obtain ⟨b0, b1, b2, b3, b4, _⟩ := cells5 x0; obtain ⟨d0, d1, d2, d3, d4, df⟩ := cells5 x2; obtain ⟨e0, e1, e2, e3, ef⟩ := cells4 x3; have df0 := df 0; have df1 := df 1; have df2 := df 2; have df3 := df 3; have df4 := df 4; have ef0 := ef 0; have ef1 := ef 1; have ef2 := ef 2; have ef3 := ef 3; clear h2 hf x0 x1 x2 x3 df ef))
      refine bodyPost_ret (v := .tuple #[.agg #[.string f, .string t, .int .i64 next, .bool once, .bool false], .agg #[.int .i64 6, .int .i64 0, .int .i64 0, .slice none 0 0]]) (by simp [results, Try.results11, go_sem, *]) rfl ?_
      have ho : ¬ next ≤ hor := by have := HO.out; simpa using this.symm
      have ha : rev < next - 1 := by have := HA.out; simpa using this.symm
      refine ⟨.slice none 0 0, ?_, ?_, Fr.set4 (Fr.set5 HF.out (by omega) _ _ _ _ _) (by omega) _ _ _ _⟩
      · unfold Cu.then' Cu.told Cu.val ntV
        rw [if_neg (by simp), if_neg ho, if_pos ha, if_neg (by simp), if_neg ho, if_pos ha]
      · unfold Cu.told
        rw [if_neg (by simp), if_neg ho, if_pos ha]
        exact RowsIn.nil _
end Go.Proofs.Ytmbfcdoemcffpaa
namespace Go.Proofs.Ytmbfcdoemcffpaa
open Go.RowKit
set_option linter.unusedVariables false
set_option linter.unusedSimpArgs false

/-- in the loop -/
def DI (C : Cu) (rows : List (List Ev)) (up : Int) (pn p2 p3 : Nat) (wS : World) (allv : Value) (j : Nat) (wr : World) : Prop :=
  ∃ vs nv, OutAt Ev.cells 67 4 wS wr allv (C.all (rows.take j)) ∧ wr.heap[pn]? = some (.cells #[.int .i64 0, .int .i64 0, .int .i64 up, nv] 39 (0, 0)) ∧
    RB ([pn, p2, p3] ++ allv.ownBlock.toList) wS wr nv vs (if C.once = true then [] else C.full (rows.take j)) ∧ Fr [pn] wS wr
theorem tell_done {C : Cu} {rev hor : Int} {rows : List (List Ev)} {w W : World} {nv : Value} (hd : C.dead = false) (h1 : ¬ C.next ≤ hor) (h2 : ¬ rev < C.next - 1) (h : Fr [] w W ∧ RowsIn W nv (C.tell rows)) :
    RfDone C rev hor rows w (.returned (.tuple #[.agg #[.string C.f, .string C.t, .int .i64 (C.next + rows.length), .bool C.once, .bool C.dead], .agg #[.int .i64 0, .int .i64 0, .int .i64 (C.next + rows.length - 1), nv]])) W := by
  refine ⟨nv, ?_, ?_, h.1⟩
  · unfold Cu.then' Cu.told Cu.val ntV
    rw [if_neg (by rw [hd]; simp), if_neg h1, if_neg h2, if_neg (by rw [hd]; simp), if_neg h1, if_neg h2]
  · unfold Cu.told
    rw [if_neg (by rw [hd]; simp), if_neg h1, if_neg h2]
    exact h.2
set_option maxHeartbeats 8000000 in
theorem rcu_tell (C : Cu) (seq rev hor : Int) (rv : Value) (rows : List (List Ev)) (w : World) (hr : RowsIn w rv rows) (hn : Few40 C.next) (hb : C.dead = false ∧ ¬ C.next ≤ hor ∧ ¬ rev < C.next - 1) (bR : RFew rows) :
    Calls Try.prog 11 #[C.val, headV seq rev hor, rv] w (RfDone C rev hor rows w) := by
  have HN := Lib.hid hn
  have HR := Lib.hid hr
  have bl : rows.length ≤ 1000000000 := bR.1
  have HBR := Lib.hid bR
  obtain ⟨s1, c1, rfl, la, ma⟩ := hr.form
  unfold maxLen at ma
  obtain ⟨f, t, next, once, dead⟩ := C
  obtain ⟨hd, hb⟩ := hb
  subst hd
  unfold Cu.val headV
  have HB := Lib.hid hb
  have hnn : -2000000000000 ≤ next ∧ next ≤ 2000000000000 := hn
  have q1 : IntKind.i64.wrap (next + rows.length) = next + rows.length := by simp only [IntKind.wrap, IntKind.signed, IntKind.bits]; simp; omega
  have q2 : IntKind.i64.wrap (next + rows.length - 1) = next + rows.length - 1 := by simp only [IntKind.wrap, IntKind.signed, IntKind.bits]; simp; omega
  have CO := Lib.hid fun W => rcu_old ⟨f, t, next, once, false⟩ seq rev hor W
  have CA := Lib.hid fun W => rcu_ahead ⟨f, t, next, once, false⟩ seq rev hor W HN.out
  unfold Cu.val headV at CO CA
  rw [decide_eq_false HB.out.1] at CO
  rw [decide_eq_false HB.out.2] at CA
  clear hn hr hb bR hnn
  go_enter Try.func11, Try.ntmps11
  go_wp2_with (first | (go_at_call 38; refine (CO.out _).mono ?_; rintro e w1 ⟨rfl, h1⟩; have H1 := Lib.hid h1; obtain ⟨x0, x1, _, _, _⟩ := four_boxes h1; obtain ⟨b0, b1, b2, b3, b4, _⟩ := cells5 x0; obtain ⟨c0, c1, c2, _⟩ := cells3 x1; clear h1 x0 x1) | (go_at_call 39; refine (CA.out _).mono ?_; rintro e w2 ⟨rfl, h2⟩; have H2 := Lib.hid (H1.out.trans h2 (by simp)); obtain ⟨x0, x1, x2, x3, hf⟩ := four_boxes H2.out; obtain ⟨b0, b1, b2, b3, b4, bf⟩ := cells5 x0; have bf2 := bf 2; clear h2 hf x0 x1 x2 x3 bf))
  obtain ⟨p0, p1, p2, p3, ⟨e0, e1, e2, e3⟩, ⟨x0, x1, x2, x3⟩, hz, hf⟩ := four_letters H2.out
  obtain ⟨pn, hpn⟩ : ∃ pn, pn = w2.heap.size := ⟨_, rfl⟩
  obtain ⟨wS, hwS⟩ : ∃ x, x = (w2.setCell ⟨p0, 2, none⟩ (.int .i64 (next + rows.length))).alloc (Obj.cells #[.int .i64 0, .int .i64 0, .int .i64 (next + rows.length - 1), .slice none 0 0] 39) := ⟨_, rfl⟩
  have hsz : wS.heap.size = pn + 1 := by rw [hwS, hpn]; simp
  have hfs : Fr [p0] w2 wS := by rw [hwS]; exact ((Fr.refl _ _).setCell (Or.inl (by simp)) _).alloc _
  have y0 : wS.heap[p0]? = some (.cells #[.string f, .string t, .int .i64 (next + rows.length), .bool once, .bool false] 25 (0, 0)) := by
    rw [hwS]
    have := blk_alloc (set_block x0 2 (.int .i64 (next + rows.length))) (Obj.cells #[.int .i64 0, .int .i64 0, .int .i64 (next + rows.length - 1), .slice none 0 0] 39)
    simpa using this
  have yn : wS.heap[pn]? = some (.cells #[.int .i64 0, .int .i64 0, .int .i64 (next + rows.length - 1), .slice none 0 0] 39 (0, 0)) := by
    rw [hwS]
    exact nblk_at (by rw [hpn]; simp)
  have Y0 := Lib.hid y0
  have YN := Lib.hid yn
  have Y2 := Lib.hid (hfs.keep x2 (by simp; omega))
  have Y3 := Lib.hid (hfs.keep x3 (by simp; omega))
  have HF := Lib.hid (hf.trans hfs (fun k hk => Or.inr (by simp at hk; omega)) : Fr [] w wS)
  have hpw : w.heap.size ≤ pn := by have := hf.size; omega
  rw [← e3, ← e2, ← e1, ← e0, ← hpn, ← hwS]
  have HZ := Lib.hid hz
  have HSZ := Lib.hid hsz
  have HPW := Lib.hid hpw
  have HP3 : Hid (p3 < pn) := Lib.hid (by omega)
  clear x0 x1 x2 x3 y0 yn hfs hf hwS hpn e0 e1 e2 e3 b0 b1 b2 b3 b4 bf2 H1 H2 CO CA hz hsz hpw c0 c2
  go_loopw [9, 10] (fun av v wr => ∃ j : Nat, v = .int .i64 j ∧ j ≤ rows.length ∧ DI ⟨f, t, next, once, false⟩ rows (next + rows.length - 1) pn p2 p3 wS av j wr) (fun _ v _ => rows.length - (intOf v).toNat)
  case atStart =>
    refine ⟨0, rfl, Nat.zero_le _, [], .slice none 0 0, OutAt.nil _ _, YN.out, ?_, Fr.refl _ _⟩
    have : (if once = true then [] else Cu.full ⟨f, t, next, once, false⟩ (rows.take 0)) = ([] : List (List Ev)) := by split <;> rfl
    rw [show (if (Cu.mk f t next once false).once = true then [] else Cu.full ⟨f, t, next, once, false⟩ (rows.take 0)) = ([] : List (List Ev)) from this]
    exact RB.nil _ _ _
  case round =>
    obtain ⟨j, rfl, hj, vs, nv, ho, hn, hb, hfr⟩ := hrel
    have HO := Lib.hid ho
    have HNB := Lib.hid hn
    have HRB := Lib.hid hb
    have HFR := Lib.hid hfr
    obtain ⟨b0, b1, b2, b3, b4, _⟩ := cells5 (hfr.keep Y0.out (by have := HZ.out; have := HP3.out; simp; omega))
    clear ho hn hb hfr
    by_cases h : j < rows.length
    · obtain ⟨x, hx⟩ : ∃ x, rows[j]? = some x := ⟨_, List.getElem?_eq_getElem h⟩
      have hfw : Fr [] w wr := HF.out.trans HFR.out (fun k hk => Or.inr (by have := HPW.out; simp at hk; omega))
      obtain ⟨g, off, d1, e1, l1, k1⟩ := RowsIn.here (HR.out.keep0 hfw) (by omega)
      simp only [Value.slice.injEq] at e1
      obtain ⟨rfl, _, rfl⟩ := e1
      obtain ⟨u, hu, hur⟩ := k1 j x hx
      obtain ⟨su, cu, hus, _, _⟩ := LIn.form hur
      subst hus
      have HX := Lib.hid hx
      have HUR := Lib.hid hur
      have t1 : decide (j < rows.length) = true := by simpa using h
      have bx : x.length ≤ many := HBR.out.row hx
      have BX := Lib.hid bx
      clear hx k1 hur hfw bx
      go_wp2_with fail
      go_region_held3 (fun W => W.cell? ⟨g, off + j, none⟩ = some (.slice su x.length cu) ∧ W.cell? ⟨p0, 0, none⟩ = some (.string f) ∧ W.cell? ⟨p0, 1, none⟩ = some (.string t)) (go_keep) (first | (go_at_call 31; refine (rfilter_new _ x f t _ (LIn.keep0 HUR.out (by first | exact Fr.refl _ _ | exact (Fr.refl _ _).drew)) BX.out).mono ?_; rintro e w3 ⟨v, rfl, h1, h2, h3⟩; have a0 := h2.cell hu (by simp); have a1 := h2.cell b0 (by simp); have a2 := h2.cell b1 (by simp); have H1 := Lib.hid h1; have H2 := Lib.hid ((Fr.refl [] wr).drew.trans h2 (by simp)); have H3 := Lib.hid (show ∀ k, v.ownBlock = some k → wr.heap.size ≤ k from h3); clear h1 h2 h3))
      obtain ⟨r, hr⟩ : ∃ r, r = filterE f t x := ⟨_, rfl⟩
      rw [← hr] at H1
      have HRR := Lib.hid hr
      obtain ⟨sv, cv, hv, lv, mv⟩ := LAt.form H1.out
      subst hv
      have hol : (Cu.all ⟨f, t, next, once, false⟩ (rows.take j)).length + r.length ≤ 1000000000 := by
        have h1 := all_few ⟨f, t, next, once, false⟩ HBR.out (j + 1)
        rw [all_step _ HX.out, List.length_append] at h1
        rw [hr]; exact h1
      have HO3 := Lib.hid (HO.out.keep H2.out)
      have HR3 := Lib.hid (HRB.out.keep H2.out)
      have hq23 : p2 < wr.heap.size ∧ p3 < wr.heap.size := by have := HZ.out; have := HP3.out; have := lt_of_block HNB.out; omega
      have HL3 := Lib.hid (HRB.out.far_new (fun k hk => by
        rcases List.mem_append.1 hk with hk | hk
        · have := lt_of_block HNB.out; simp at hk; omega
        · exact HO.out.lies.lt k (Option.mem_toList.1 hk)) (EvAt.read H1.out) H3.out)
      have HN3 := Lib.hid (H2.out.keep HNB.out (by simp))
      have HFR3 := Lib.hid (HFR.out.trans H2.out (by simp))
      have B3 := H2.out.cell b3 (by simp)
      clear hr hu b0 b1 b2 b3 b4 a0 a1 a2
      go_wp2_with (at_builtin; refine wpList_append_src rfl (.tmp 52) (.tmp 53) 30 67 (.agg #[.int .i64 0, .string ⟨#[]⟩, .string ⟨#[]⟩, .bool false]) 4 48 rfl ev_slice ev_info rfl (by decide) _ _ (allC Ev.cells (Cu.all ⟨f, t, next, once, false⟩ (rows.take j))) rfl HO3.out.lies (.slice sv r.length cv) r.length (allC Ev.cells r) rfl (LIn.src (EvAt.read H1.out) Ev.clen (by decide)) (allC_ones Ev.cone r) (by unfold maxLen; omega) (by omega) ?app)
      case app =>
      intro va w4 h1 h2 h3
      have hpS : ∀ k ∈ u9.ownBlock.toList, wS.heap.size ≤ k := fun k hk => HO3.out.new k (Option.mem_toList.1 hk)
      have hsS := HSZ.out
      have hp3 := HP3.out
      have hz3 := HZ.out
      have hs3 := HFR3.out.size
      have hgr : Grow ([pn, p2, p3] ++ u9.ownBlock.toList) ([pn, p2, p3] ++ va.ownBlock.toList) w3 := fun k hk => by
        rcases List.mem_append.1 hk with hk | hk
        · exact Or.inl (List.mem_append.2 (Or.inl hk))
        · rcases h3 k (Option.mem_toList.1 hk) with h4 | rfl
          · exact Or.inl (List.mem_append.2 (Or.inr (Option.mem_toList.2 h4)))
          · exact Or.inr (Nat.le_refl _)
      have hgr2 : Grow (([pn, p2, p3] ++ u9.ownBlock.toList) ++ nv.ownBlock.toList) (([pn, p2, p3] ++ va.ownBlock.toList) ++ nv.ownBlock.toList) w3 := fun k hk => by
        rcases List.mem_append.1 hk with hk | hk
        · exact (hgr k hk).imp (fun h => List.mem_append.2 (Or.inl h)) id
        · exact Or.inl (List.mem_append.2 (Or.inr hk))
      have hf4 : Fr ([pn, p2, p3] ++ u9.ownBlock.toList) w3 w4 := h2.mono (fun k hk => Or.inl (List.mem_append.2 (Or.inr hk)))
      have HA := Lib.hid (OutAt.app HO3.out hs3 (xs := r) h1 rfl h3)
      have HR4 := Lib.hid (HR3.out.step hf4 hgr)
      have HL4 := Lib.hid (HL3.out.step (hf4.mono (fun k hk => Or.inl (List.mem_append.2 (Or.inl hk)))) hgr2)
      have HN4 := Lib.hid (h2.keep HN3.out (fun hm => by have := hpS _ hm; omega))
      have HFR4 : Hid (Fr [pn] wS w4) := Lib.hid (HFR3.out.trans h2 (fun k hk => Or.inr (hpS k hk)))
      have B4 := h2.cell B3 (show p0 ∉ u9.ownBlock.toList from fun hm => by have := hpS _ hm; omega)
      have hq24 : p2 < w4.heap.size ∧ p3 < w4.heap.size := by have := HFR4.out.size; omega
      have HAT : Hid (∀ k ∈ [pn, p2, p3] ++ va.ownBlock.toList, k < w4.heap.size) := Lib.hid (fun k hk => by
        rcases List.mem_append.1 hk with hk | hk
        · have := lt_of_block HN4.out; simp at hk; omega
        · exact HA.out.lies.lt k (Option.mem_toList.1 hk))
      have HAS : Hid (OutAt Ev.cells 67 4 wS w4 va (Cu.all ⟨f, t, next, once, false⟩ (rows.take (j + 1)))) := Lib.hid (by
        rw [all_step _ HX.out, ← HRR.out]; exact HA.out)
      obtain ⟨n0, n1, n2, n3, _⟩ := cells4 HN4.out
      clear h1 h2 h3 hpS hsS hp3 hz3 hs3 hq23 hq24 hgr hgr2 hf4 HO3 HR3 HL3 HN3 HFR3 B3 HA
      have skip : ((if (Cu.mk f t next once false).once = true then [] else Cu.full ⟨f, t, next, once, false⟩ (rows.take (j + 1))) = (if (Cu.mk f t next once false).once = true then [] else Cu.full ⟨f, t, next, once, false⟩ (rows.take j))) → DI ⟨f, t, next, once, false⟩ rows (next + rows.length - 1) pn p2 p3 wS va (j + 1) w4 := fun he =>
        ⟨vs, nv, HAS.out, HN4.out, by rw [he]; exact HR4.out, HFR4.out⟩
      have SKIP := Lib.hid skip
      clear skip
      by_cases hrn : r = []
      · have HE := Lib.hid hrn
        have hl0 : r.length = 0 := by rw [hrn]; rfl
        rw [hl0]
        clear hrn hl0
        go_wp2_with fail
        go_roundw
        case rel =>
          refine ⟨j + 1, by go_num, by omega, SKIP.out ?_⟩
          split
          · rfl
          · rw [full_step _ HX.out, if_pos (by rw [← HRR.out]; exact HE.out), List.append_nil]
        case measure => simp [intOf]; omega
      · have HE := Lib.hid hrn
        have hl0 : 0 < r.length := List.length_pos_iff.2 hrn
        have t2 : decide (0 < r.length) = true := by simpa using hl0
        clear hrn hl0
        cases once with
        | true =>
          go_wp2_with fail
          go_roundw
          case rel => exact ⟨j + 1, by go_num, by omega, SKIP.out (by rw [if_pos rfl, if_pos rfl])⟩
          case measure => simp [intOf]; omega
        | false =>
          have hfn : (Cu.full ⟨f, t, next, false, false⟩ (rows.take j)).length ≤ 1000000000 := by
            refine Nat.le_trans (full_few _ _) ?_
            rw [List.length_take]; omega
          go_wp2_with (at_builtin; refine wpList_append_any rfl (.tmp 64) (.tmp 66) 28 30 (.slice none 0 0) 1 24 rfl row_slice row_info rfl (by decide) nv (Cu.full ⟨f, t, next, false, false⟩ (rows.take j)).length vs rfl (HR4.out.lies.keep ((Fr.refl [] _).alloc _) (by simp)) _ 1 [.slice sv r.length cv] rfl (lies_row w4 30 [.slice sv r.length cv] rfl _ rfl) (by intro y hy; simp at hy; subst hy; rfl) (by unfold maxLen; omega) (by omega) ?app2)
          case app2 =>
          intro vb w5 h1 h2 h3
          obtain ⟨svb, cvb, hvb, _, _⟩ := h1.form
          subst hvb
          have hal : Fr [] w4 (w4.alloc (.cells #[.slice sv r.length cv] 30)) := (Fr.refl [] w4).alloc _
          have hR5 := (HR4.out.keep hal).app (B := w4.heap.size + 1) (Nat.le_trans HFR4.out.size (by omega)) (fun hm => by have := HAT.out _ hm; omega) (by simp) (HL4.out.keep0 hal) h1 h2 h3
          have HNEW := Lib.hid (HR4.out.new)
          have hn5 := h2.keep (hal.keep HN4.out (by simp)) (fun hm => (HNEW.out _ (Option.mem_toList.1 hm)).2 (by simp))
          have hf5 : Fr [pn] wS w5 := (HFR4.out.trans hal (by simp)).trans h2 (fun k hk => Or.inr (HNEW.out k (Option.mem_toList.1 hk)).1)
          have ha5 : OutAt Ev.cells 67 4 wS w5 va (Cu.all ⟨f, t, next, false, false⟩ (rows.take (j + 1))) := by
            have h6 := HAS.out.keep hal
            refine ⟨h6.lies.keep h2 (fun k hk hm => ?_), h6.new⟩
            exact (HNEW.out k (Option.mem_toList.1 hm)).2 (List.mem_append.2 (Or.inr (Option.mem_toList.2 hk)))
          obtain ⟨m0, m1, m2, m3, mf⟩ := cells4 hn5
          have mf3 := mf 3
          have HR5 := Lib.hid hR5
          have HN5 := Lib.hid hn5
          have HF5 := Lib.hid hf5
          have HA5 := Lib.hid ha5
          clear h1 h2 h3 hR5 hn5 hf5 ha5 hal mf
          go_wp2_with fail
          have hst : Fr [pn] w5 (w5.setCell ⟨pn, 3, none⟩ (.slice svb ((Cu.full ⟨f, t, next, false, false⟩ (rows.take j)).length + 1) cvb)) := (Fr.refl _ _).setCell (Or.inl (by simp)) _
          go_roundw
          case rel =>
            refine ⟨j + 1, by go_num, by omega, vs ++ [.slice sv r.length cv], .slice svb ((Cu.full ⟨f, t, next, false, false⟩ (rows.take j)).length + 1) cvb, ?_, ?_, ?_, HF5.out.trans hst (fun k hk => Or.inl hk)⟩
            · exact ⟨HA5.out.lies.keep hst (fun k hk hm => by have := HA5.out.new k hk; have := HSZ.out; simp at hm; omega), HA5.out.new⟩
            · have := set_block HN5.out 3 (.slice svb ((Cu.full ⟨f, t, next, false, false⟩ (rows.take j)).length + 1) cvb)
              simpa using this
            · have h7 := HR5.out.keepT (hst.mono (fun k hk => Or.inl (by simp at hk; simp [hk])))
              rw [if_neg (by simp), full_step _ HX.out, if_neg (by rw [← HRR.out]; exact HE.out), ← HRR.out]
              exact h7
          case measure => simp [intOf]; omega
    · have t1 : decide (j < rows.length) = false := by simpa using h
      have hj2 : j = rows.length := by omega
      subst hj2
      rw [List.take_length] at HO HRB
      have hfw : Fr [] w wr := HF.out.trans HFR.out (fun k hk => Or.inr (by have := HPW.out; simp at hk; omega))
      have HFW := Lib.hid hfw
      have XF0 := Lib.hid (HFR.out.keep Y0.out (by have := HZ.out; have := HP3.out; simp; omega))
      have XF2 := Lib.hid (HFR.out.keep Y2.out (by have := HZ.out; have := HP3.out; simp; omega))
      have XF3 := Lib.hid (HFR.out.keep Y3.out (by have := HZ.out; have := HP3.out; simp; omega))
      clear hfw b0 b1 b2 b4
      obtain ⟨sa, ca, hua, _, _⟩ := LAt.form HO.out.lies
      subst hua
      obtain ⟨snv, cnv, hnv, _, _⟩ := HRB.out.lies.form
      obtain ⟨nnv, hnn⟩ : ∃ n, n = (if (Cu.mk f t next once false).once = true then [] else Cu.full ⟨f, t, next, once, false⟩ rows).length := ⟨_, rfl⟩
      rw [← hnn] at hnv
      have HNN := Lib.hid hnn
      clear hnn
      subst hnv
      cases once with
      | false =>
        have XFN := HNB
        have HRT : Hid (∀ W : World, Fr [p2, p3] wr W → RowsIn W (.slice snv nnv cnv) (Cu.tell ⟨f, t, next, false, false⟩ rows)) := Lib.hid (fun W h => by
          have h1 := HRB.out.keepT (h.mono (fun k hk => Or.inl (List.mem_append.2 (Or.inl (List.mem_cons_of_mem _ hk)))))
          rw [full_tell rfl]
          exact h1.rowsIn)
        clear b3
        obtain ⟨b0, b1, b2, b3, b4, _⟩ := cells5 XF0.out
        obtain ⟨n0, n1, n2, n3, _⟩ := cells4 XFN.out
        obtain ⟨d0, d1, d2, d3, d4, df⟩ := cells5 XF2.out
        obtain ⟨e0, e1, e2, e3, ef⟩ := cells4 XF3.out
        have df0 := df 0
        have df1 := df 1
        have df2 := df 2
        have df3 := df 3
        have df4 := df 4
        have ef0 := ef 0
        have ef1 := ef 1
        have ef2 := ef 2
        have ef3 := ef 3
        have m1 : ¬ p0 = p2 := by have := HZ.out; omega
        have m2 : ¬ p2 = p0 := by have := HZ.out; omega
        have m3 : ¬ p0 = p3 := by have := HZ.out; omega
        have m4 : ¬ p3 = p0 := by have := HZ.out; omega
        have m5 : ¬ pn = p2 := by have := HZ.out; have := HP3.out; omega
        have m6 : ¬ p2 = pn := by have := HZ.out; have := HP3.out; omega
        have m7 : ¬ pn = p3 := by have := HZ.out; have := HP3.out; omega
        have m8 : ¬ p3 = pn := by have := HZ.out; have := HP3.out; omega
        have m9 : ¬ p2 = p3 := by have := HZ.out; omega
        have m10 : ¬ p3 = p2 := by have := HZ.out; omega
        clear df ef
        go_wp2_with fail
        go_region_held3 (fun W => W.cell? ⟨p0, 0, none⟩ = some (.string f) ∧ W.cell? ⟨p0, 1, none⟩ = some (.string t) ∧ W.cell? ⟨p0, 2, none⟩ = some (.int .i64 (next + rows.length)) ∧ W.cell? ⟨p0, 3, none⟩ = some (.bool false) ∧ W.cell? ⟨p0, 4, none⟩ = some (.bool false) ∧ W.cell? ⟨pn, 0, none⟩ = some (.int .i64 0) ∧ W.cell? ⟨pn, 1, none⟩ = some (.int .i64 0) ∧ W.cell? ⟨pn, 2, none⟩ = some (.int .i64 (next + rows.length - 1)) ∧ W.cell? ⟨pn, 3, none⟩ = some (.slice snv nnv cnv)) (go_keep) (fail)
        all_goals go_wp2_with fail
        all_goals refine bodyPost_ret (v := .tuple #[.agg #[.string f, .string t, .int .i64 (next + rows.length), .bool false, .bool false], .agg #[.int .i64 0, .int .i64 0, .int .i64 (next + rows.length - 1), .slice snv nnv cnv]]) (by simp [results, Try.results11, go_sem, *]) rfl ?_
        all_goals
          have hz := HZ.out
          have hb1 : ¬ next ≤ hor := by have := HB.out; omega
          have hb2 : ¬ rev < next - 1 := by have := HB.out; omega
          have hfx : ∀ W : World, Fr [p2, p3] wr W → Fr [] w W ∧ RowsIn W (.slice snv nnv cnv) (Cu.tell ⟨f, t, next, false, false⟩ rows) := fun W h => ⟨HFW.out.trans h (fun k hk => Or.inr (by simp at hk; omega)), HRT.out W h⟩
          refine tell_done rfl hb1 hb2 (hfx _ ?_)
          with_reducible (repeat (first | exact Fr.refl _ _ | refine Fr.drew ?_ | refine Fr.setCell ?_ (Or.inl (by simp)) _))
      | true =>
        by_cases hA : Cu.all ⟨f, t, next, true, false⟩ rows = []
        · have XFN := HNB
          have HRT : Hid (∀ W : World, Fr [p2, p3] wr W → RowsIn W (.slice snv nnv cnv) (Cu.tell ⟨f, t, next, true, false⟩ rows)) := Lib.hid (fun W h => by
            have h1 := HRB.out.keepT (h.mono (fun k hk => Or.inl (List.mem_append.2 (Or.inl (List.mem_cons_of_mem _ hk)))))
            unfold Cu.tell
            rw [if_pos rfl, if_pos hA]
            exact h1.rowsIn)
          have t2 : decide (0 < (Cu.all ⟨f, t, next, true, false⟩ rows).length) = false := by rw [hA]; rfl
          clear hA
          clear b3
          obtain ⟨b0, b1, b2, b3, b4, _⟩ := cells5 XF0.out
          obtain ⟨n0, n1, n2, n3, _⟩ := cells4 XFN.out
          obtain ⟨d0, d1, d2, d3, d4, df⟩ := cells5 XF2.out
          obtain ⟨e0, e1, e2, e3, ef⟩ := cells4 XF3.out
          have df0 := df 0
          have df1 := df 1
          have df2 := df 2
          have df3 := df 3
          have df4 := df 4
          have ef0 := ef 0
          have ef1 := ef 1
          have ef2 := ef 2
          have ef3 := ef 3
          have m1 : ¬ p0 = p2 := by have := HZ.out; omega
          have m2 : ¬ p2 = p0 := by have := HZ.out; omega
          have m3 : ¬ p0 = p3 := by have := HZ.out; omega
          have m4 : ¬ p3 = p0 := by have := HZ.out; omega
          have m5 : ¬ pn = p2 := by have := HZ.out; have := HP3.out; omega
          have m6 : ¬ p2 = pn := by have := HZ.out; have := HP3.out; omega
          have m7 : ¬ pn = p3 := by have := HZ.out; have := HP3.out; omega
          have m8 : ¬ p3 = pn := by have := HZ.out; have := HP3.out; omega
          have m9 : ¬ p2 = p3 := by have := HZ.out; omega
          have m10 : ¬ p3 = p2 := by have := HZ.out; omega
          clear df ef
          go_wp2_with fail
          go_region_held3 (fun W => W.cell? ⟨p0, 0, none⟩ = some (.string f) ∧ W.cell? ⟨p0, 1, none⟩ = some (.string t) ∧ W.cell? ⟨p0, 2, none⟩ = some (.int .i64 (next + rows.length)) ∧ W.cell? ⟨p0, 3, none⟩ = some (.bool true) ∧ W.cell? ⟨p0, 4, none⟩ = some (.bool false) ∧ W.cell? ⟨pn, 0, none⟩ = some (.int .i64 0) ∧ W.cell? ⟨pn, 1, none⟩ = some (.int .i64 0) ∧ W.cell? ⟨pn, 2, none⟩ = some (.int .i64 (next + rows.length - 1)) ∧ W.cell? ⟨pn, 3, none⟩ = some (.slice snv nnv cnv)) (go_keep) (fail)
          all_goals go_wp2_with fail
          all_goals refine bodyPost_ret (v := .tuple #[.agg #[.string f, .string t, .int .i64 (next + rows.length), .bool true, .bool false], .agg #[.int .i64 0, .int .i64 0, .int .i64 (next + rows.length - 1), .slice snv nnv cnv]]) (by simp [results, Try.results11, go_sem, *]) rfl ?_
          all_goals
            have hz := HZ.out
            have hb1 : ¬ next ≤ hor := by have := HB.out; omega
            have hb2 : ¬ rev < next - 1 := by have := HB.out; omega
            have hfx : ∀ W : World, Fr [p2, p3] wr W → Fr [] w W ∧ RowsIn W (.slice snv nnv cnv) (Cu.tell ⟨f, t, next, true, false⟩ rows) := fun W h => ⟨HFW.out.trans h (fun k hk => Or.inr (by simp at hk; omega)), HRT.out W h⟩
            refine tell_done rfl hb1 hb2 (hfx _ ?_)
            with_reducible (repeat (first | exact Fr.refl _ _ | refine Fr.drew ?_ | refine Fr.setCell ?_ (Or.inl (by simp)) _))
        · have t2 : decide (0 < (Cu.all ⟨f, t, next, true, false⟩ rows).length) = true := by simpa using List.length_pos_iff.2 hA
          have HAL := Lib.hid hA
          have HBL : Hid ((Cu.all ⟨f, t, next, true, false⟩ rows).length ≤ many) := Lib.hid (by have := all_few ⟨f, t, next, true, false⟩ HBR.out rows.length; rw [List.take_length] at this; exact this)
          clear hA
          go_wp2_with (go_at_call 33; refine (rlast_any _ (Cu.all ⟨f, t, next, true, false⟩ rows) _ (EvAt.read HO.out.lies) HBL.out).mono ?_; rintro e w5 ⟨v, rfl, h1, h2⟩; refine go_stop ?_)
          unfold Stop
          obtain ⟨sv, cv, hv, _, _⟩ := LAt.form h1
          subst hv
          have hn5 := h2.keep HNB.out (by simp)
          have h02 := h2.keep XF2.out (by simp)
          have h03 := h2.keep XF3.out (by simp)
          have h00 := h2.keep XF0.out (by simp)
          obtain ⟨n0, n1, n2, n3, nf⟩ := cells4 hn5
          have nf3 := nf 3
          have hs5 := h2.size
          have hsr := HFR.out.size
          obtain ⟨b, hb⟩ : ∃ b, b = w5.heap.size := ⟨_, rfl⟩
          have hpb : pn < b := by have := lt_of_block hn5; omega
          have k1 : ¬ pn = w5.heap.size := by omega
          have k2 : ¬ w5.heap.size = pn := by omega
          have k3 : pn < w5.heap.size := by omega
          obtain ⟨wT, hwT⟩ : ∃ x, x = w5.setCell ⟨pn, 3, none⟩ (.slice (some ⟨b, 0, none⟩) 1 1) := ⟨_, rfl⟩
          obtain ⟨wF, hwF⟩ : ∃ x, x = wT.alloc (.cells #[.slice sv (lastE (Cu.all ⟨f, t, next, true, false⟩ rows)).length cv] 30) := ⟨_, rfl⟩
          have hst : Fr [pn] w5 wT := by rw [hwT]; exact (Fr.refl _ _).setCell (Or.inl (by simp)) _
          have hbT : b = wT.heap.size := by rw [hwT, hb]; simp
          have hal : Fr [] wT wF := by rw [hwF]; exact (Fr.refl [] wT).alloc _
          have h5F : Fr [pn] w5 wF := hst.trans hal (by simp)
          have yF : wF.heap[pn]? = some (.cells #[.int .i64 0, .int .i64 0, .int .i64 (next + rows.length - 1), .slice (some ⟨b, 0, none⟩) 1 1] 39 (0, 0)) := by
            refine hal.keep ?_ (by simp)
            rw [hwT]
            have := set_block hn5 3 (.slice (some ⟨b, 0, none⟩) 1 1)
            simpa using this
          have hvd : ∀ k, (Value.slice sv (lastE (Cu.all ⟨f, t, next, true, false⟩ rows)).length cv).ownBlock = some k → k ∉ [pn, p2, p3] := fun k hk hm => by
            obtain ⟨cur, hc⟩ := ev_tag h1 hk
            simp at hm
            rcases hm with rfl | rfl | rfl
            · rw [hn5] at hc; simp at hc
            · rw [h02] at hc; simp at hc
            · rw [h03] at hc; simp at hc
          have hR := RB.one (T := [pn, p2, p3]) (wb := wS) (w := wT) (LAt.keep h1 hst (fun k hk hm => hvd k hk (by simp at hm; simp [hm]))) (by rw [← hbT]; omega) (fun k hk => by have := HZ.out; have := HP3.out; rw [← hbT]; simp at hk; omega) hvd
          rw [← hbT, ← hwF] at hR
          have hRF := hR
          have HRT : Hid (∀ W : World, Fr [p2, p3] wF W → RowsIn W (.slice (some ⟨b, 0, none⟩) 1 1) (Cu.tell ⟨f, t, next, true, false⟩ rows)) := Lib.hid (fun W h => by
            have h1 := hRF.keepT (h.mono (fun k hk => Or.inl (List.mem_cons_of_mem _ hk)))
            unfold Cu.tell
            rw [if_pos rfl, if_neg HAL.out]
            exact h1.rowsIn)
          have HFF : Hid (Fr [] w wF) := Lib.hid ((HFW.out.trans h2 (by simp)).trans h5F (fun k hk => Or.inr (by have := HPW.out; simp at hk; omega)))
          have XFN := Lib.hid yF
          have hzz := HZ.out
          have hp33 := HP3.out
          have XG0 := Lib.hid (h5F.keep h00 (by simp; omega))
          have XG2 := Lib.hid (h5F.keep h02 (by simp; omega))
          have XG3 := Lib.hid (h5F.keep h03 (by simp; omega))
          clear h1 h2 h02 h03 h00 hn5 nf hs5 hsr hal hst h5F yF hR hRF hvd hzz hp33 b3 hpb XF0 XF2 XF3
          have HBB := Lib.hid hb
          have HWT := Lib.hid hwT
          have HWF := Lib.hid hwF
          clear hb hbT hwT hwF
          go_wp2_with fail
          rw [← HBB.out, ← HWT.out, ← HWF.out]
          clear n0 n1 n2 n3 nf3 k1 k2 k3
          obtain ⟨b0, b1, b2, b3, b4, _⟩ := cells5 XG0.out
          obtain ⟨n0, n1, n2, n3, _⟩ := cells4 XFN.out
          obtain ⟨d0, d1, d2, d3, d4, df⟩ := cells5 XG2.out
          obtain ⟨e0, e1, e2, e3, ef⟩ := cells4 XG3.out
          have df0 := df 0
          have df1 := df 1
          have df2 := df 2
          have df3 := df 3
          have df4 := df 4
          have ef0 := ef 0
          have ef1 := ef 1
          have ef2 := ef 2
          have ef3 := ef 3
          have m1 : ¬ p0 = p2 := by have := HZ.out; omega
          have m2 : ¬ p2 = p0 := by have := HZ.out; omega
          have m3 : ¬ p0 = p3 := by have := HZ.out; omega
          have m4 : ¬ p3 = p0 := by have := HZ.out; omega
          have m5 : ¬ pn = p2 := by have := HZ.out; have := HP3.out; omega
          have m6 : ¬ p2 = pn := by have := HZ.out; have := HP3.out; omega
          have m7 : ¬ pn = p3 := by have := HZ.out; have := HP3.out; omega
          have m8 : ¬ p3 = pn := by have := HZ.out; have := HP3.out; omega
          have m9 : ¬ p2 = p3 := by have := HZ.out; omega
          have m10 : ¬ p3 = p2 := by have := HZ.out; omega
          clear df ef
          go_region_held3 (fun W => W.cell? ⟨p0, 0, none⟩ = some (.string f) ∧ W.cell? ⟨p0, 1, none⟩ = some (.string t) ∧ W.cell? ⟨p0, 2, none⟩ = some (.int .i64 (next + rows.length)) ∧ W.cell? ⟨p0, 3, none⟩ = some (.bool true) ∧ W.cell? ⟨p0, 4, none⟩ = some (.bool false) ∧ W.cell? ⟨pn, 0, none⟩ = some (.int .i64 0) ∧ W.cell? ⟨pn, 1, none⟩ = some (.int .i64 0) ∧ W.cell? ⟨pn, 2, none⟩ = some (.int .i64 (next + rows.length - 1)) ∧ W.cell? ⟨pn, 3, none⟩ = some (.slice (some ⟨b, 0, none⟩) 1 1)) (go_keep) (fail)
          all_goals go_wp2_with fail
          all_goals refine bodyPost_ret (v := .tuple #[.agg #[.string f, .string t, .int .i64 (next + rows.length), .bool true, .bool false], .agg #[.int .i64 0, .int .i64 0, .int .i64 (next + rows.length - 1), .slice (some ⟨b, 0, none⟩) 1 1]]) (by simp [results, Try.results11, go_sem, *]) rfl ?_
          all_goals
            have hz := HZ.out
            have hb1 : ¬ next ≤ hor := by have := HB.out; omega
            have hb2 : ¬ rev < next - 1 := by have := HB.out; omega
            have hfx : ∀ W : World, Fr [p2, p3] wF W → Fr [] w W ∧ RowsIn W (.slice (some ⟨b, 0, none⟩) 1 1) (Cu.tell ⟨f, t, next, true, false⟩ rows) := fun W h => ⟨HFF.out.trans h (fun k hk => Or.inr (by simp at hk; omega)), HRT.out W h⟩
            refine tell_done rfl hb1 hb2 (hfx _ ?_)
            with_reducible (repeat (first | exact Fr.refl _ _ | refine Fr.drew ?_ | refine Fr.setCell ?_ (Or.inl (by simp)) _))
theorem rcu_deliver (C : Cu) (seq rev hor : Int) (rv : Value) (rows : List (List Ev)) (w : World) (hr : RowsIn w rv rows) (hn : Few40 C.next) (bR : RFew rows) :
    Calls Try.prog 11 #[C.val, headV seq rev hor, rv] w (RfDone C rev hor rows w) := by
  by_cases h : C.dead = true ∨ C.next ≤ hor ∨ rev < C.next - 1
  · exact rcu_refuse C seq rev hor rv rows w hr hn h
  · refine rcu_tell C seq rev hor rv rows w hr hn ⟨?_, fun k => h (Or.inr (Or.inl k)), fun k => h (Or.inr (Or.inr k))⟩ bR
    cases hd : C.dead with
    | true => exact absurd (Or.inl hd) h
    | false => rfl
end Go.Proofs.Ytmbfcdoemcffpaa
