/- Entries are numbered one by one; revisions and the horizon never fall: for every list of requests. No condition. -/
import Derived.Test.YtlklmmpblgcaoaaMdAwake
import Derived.Test.YtlklmmpblgcaoaaMdLaw
namespace Go.Proofs.Ytlklmmpblgcaoaa.lawModelHeads
open Go.ChangeShapes Go.WideShapes Go.ChangeAt Go.RowKit Go.Deep Go.ChangeMaps
set_option linter.unusedVariables false
set_option linter.unusedSimpArgs false

theorem heads_step {M : MA} {n : Nat} (h : MOk M n) (q : Rq) : M.H.rows.length ≤ (M.next q).H.rows.length ∧ M.H.hor ≤ (M.next q).H.hor ∧ (M.next q).H.hor ≤ (M.next q).H.rows.length ∧ (M.next q).H.rows.length ≤ (M.next q).H.hor + 16 ∧ (M.next q).H.rows.length ≤ M.H.rows.length + 1 ∧ (M.next q).seq ≤ n + 1 ∧ (M.next q).H.rows.length ≤ n + 1 :=
  ⟨(next_later M q).len, (next_later M q).hor, (h.next q).hok.hor, (h.next q).gap, next_rows M q, (h.next q).seq, (h.next q).hok.rev⟩
/-- a head's cells -/
def HdAt (w : World) (b : Nat) (M : MA) : Prop := w.heap[b]? = some (.cells #[.int .i64 M.seq, .int .i64 M.H.rows.length, .int .i64 M.H.hor] 28 (0, 0))
theorem run_neq_hd (a b c : Int) (w : World) : (binOp .neq 28 (.agg #[.int .i64 a, .int .i64 b, .int .i64 c]) (.agg #[.int .i64 a, .int .i64 b, .int .i64 c])).run Try.prog w = .ok (.bool false) w := by
  simp [go_sem]
set_option maxRecDepth 100000 in
set_option maxHeartbeats 8000000 in
theorem walk (lv : Value) (l : List Rv) (w : World) (hl : RvIn w lv l) : Calls Try.prog 3 #[lv] w fun e w' => e = .returned (.bool true) ∧ Below w.heap.size w w' := by
  obtain ⟨s1, c1, rfl, la, ma⟩ := hl.form
  unfold maxLen at ma
  have HL := Lib.hid hl
  clear hl
  have HFEW : Hid (∀ X, Fr [] w X → Calls Try.prog 10 #[.slice s1 l.length c1] X fun e w' => e = .returned (.bool (fewB l)) ∧ Fr [] X w') := Lib.hid (fun X hX => mfew_any _ l X (HL.out.keep0 hX))
  cases hb : fewB l
  · rw [hb] at HFEW
    clear hb
    go_enter Try.func3, Try.ntmps3
    go_wp2_with (first
      | (go_at_call 8; refine (mdl_awake _).mono ?_; rintro e w1 ⟨rfl, h1⟩; have HF := Lib.hid h1; clear h1)
      | (go_at_call 9; refine (mdl_new _).mono ?_; rintro e w2 ⟨p, S, rfl, h1, h2, h3⟩; replace HF := Lib.hid (HF.out.trans h2 (by simp)); clear h1 h2 h3)
      | (go_at_call 10; refine (HFEW.out _ HF.out).mono ?_; rintro e w3 ⟨rfl, h1⟩; replace HF := Lib.hid (HF.out.trans h1 (by simp)); clear h1))
    go_ret
    exact ⟨rfl, HF.out.below (Nat.le_refl _) (by simp)⟩
  · rw [hb] at HFEW
    obtain ⟨h60, h8⟩ := few_small hb
    have H8 := Lib.hid h8
    clear hb h8
    go_enter Try.func3, Try.ntmps3
    go_wp2_with (first
      | (go_at_call 8; refine (mdl_awake _).mono ?_; rintro e w1 ⟨rfl, h1⟩; have HF := Lib.hid h1; clear h1)
      | (go_at_call 9; refine (mdl_new _).mono ?_; rintro e w2 ⟨p, S0, rfl, h1, h2, h3⟩; have HS := Lib.hid h1; have hg := h3; replace hg : ∀ k ∈ S0, w.heap.size ≤ k := (fun k hk => Nat.le_trans HF.out.size (h3 k hk)); have HG := Lib.hid hg; replace HF := Lib.hid (HF.out.trans h2 (by simp)); clear h1 h2 h3 hg)
      | (go_at_call 10; refine (HFEW.out _ HF.out).mono ?_; rintro e w3 ⟨rfl, h1⟩; replace HS := Lib.hid (HS.out.keep h1 (by simp)); replace HF := Lib.hid (HF.out.trans h1 (by simp)); clear h1))
    have HB : Hid (HdAt (w3.alloc (.cells #[.int .i64 0, .int .i64 0, .int .i64 0] 28)) w3.heap.size MA.zero) := Lib.hid (new_block w3 _)
    have hal : Fr [] w3 (w3.alloc (.cells #[.int .i64 0, .int .i64 0, .int .i64 0] 28)) := (Fr.refl [] w3).alloc _
    have HW3 : Hid (w.heap.size ≤ w3.heap.size) := Lib.hid HF.out.size
    have HN : Hid (w3.heap.size ∉ S0 ∧ w.heap.size ≤ w3.heap.size) := Lib.hid ⟨HS.out.fresh, HF.out.size⟩
    replace HS := Lib.hid (HS.out.keep hal (by simp))
    replace HF := Lib.hid (HF.out.trans hal (by simp))
    clear hal HFEW
    go_loopw [6] (fun i wr => ∃ (j : Nat) (S : List Nat), i = .int .i64 j ∧ j ≤ l.length ∧ Hid (Md wr p S (runV (l.take j))) ∧ Hid (∀ k ∈ S, w.heap.size ≤ k) ∧ Hid (w3.heap.size ∉ S) ∧ Hid (HdAt wr w3.heap.size (runV (l.take j))) ∧ Hid (Fr [] w wr)) (fun i _ => l.length - (intOf i).toNat)
    case atStart => exact ⟨0, S0, rfl, Nat.zero_le _, HS, HG, Lib.hid HN.out.1, HB, HF⟩
    case round =>
      obtain ⟨j, S, rfl, hj, HS, HSS, HN, HB, HF⟩ := hrel
      by_cases h : j < l.length
      · have t1 : decide ((j : Int) < (l.length : Int)) = true := by simp; omega
        obtain ⟨d, hd⟩ : ∃ d, l[j]? = some d := ⟨_, List.getElem?_eq_getElem h⟩
        have HL2 := Lib.hid (HL.out.keep0 HF.out)
        obtain ⟨g, off, d1, e1, hg, l1, k1⟩ := RvIn.here HL.out (by omega)
        cases e1
        obtain ⟨hc, hq⟩ := k1 j d hd
        have HGS : Hid (g ∉ S) := Lib.hid (fun hm => absurd (HSS.out g hm) (by omega))
        have hwf := HF.out.size
        have hcf := hc.keep HF.out (by simp)
        obtain ⟨p0, p1, p2, p3, p4, p5, p6⟩ := hcf
        have HCW := Lib.hid (hc.keep HF.out (by simp))
        have HRQ := Lib.hid hq
        have HQ := Lib.hid (RqFar.of_old hq HSS.out HF.out)
        have HNX := Lib.hid (runV_next hd)
        have HOK := Lib.hid (runV_ok l j)
        have H8d := Lib.hid (H8.out d (List.mem_of_getElem? hd))
        clear hd k1 hc hq
        obtain ⟨M, hM⟩ : ∃ M, M = runV (l.take j) := ⟨_, rfl⟩
        rw [← hM] at HS HB HNX HOK
        clear hM
        go_wp2_with (go_at_call 11; refine go_stop ?_)
        unfold Stop
        refine (mdl_serve (n := l.length) d.q d.c d.t d.e HS.out HOK.out (by omega) HQ.out H8d.out.1 H8d.out.2.1 H8d.out.2.2).mono ?_
        rintro e w4 ⟨v4, S4, rfl, h1, h2, h3, h4, h5⟩
        obtain ⟨s4, c4, rfl, _, _⟩ := h2.form
        have HG4 := Lib.hid (fun k hk => (h5.ge hwf HSS.out) k hk)
        replace HF := Lib.hid (HF.out.trans h4 (fun k hk => Or.inr (HSS.out k hk)))
        have hbl := lt_of_block HB.out
        replace HB := Lib.hid (show HdAt w4 w3.heap.size M from h4.keep HB.out HN.out)
        replace HN := Lib.hid (not_grow h5 HN.out hbl)
        have HBlt : Hid (w3.heap.size < w4.heap.size) := Lib.hid (lt_of_block HB.out)
        replace HCW := Lib.hid (HCW.out.keep h4 HGS.out)
        replace HS := Lib.hid h1
        clear h1 h2 h3 h4 h5 p0 p1 p2 p3 p4 p5 p6 hbl
        have HST := Lib.hid (heads_step HOK.out d.q)
        have HNS := Lib.hid (fun (he : entryB d.q = false) => next_same (M := M) he)
        have HNE := Lib.hid (fun (he : entryB d.q = true) => next_entry (M := M) he)
        have hsq := HOK.out.seq
        have hrq := HOK.out.hok.rev
        rw [← HNX.out] at HS
        obtain ⟨M', hM'⟩ : ∃ M', M' = M.next d.q := ⟨_, rfl⟩
        rw [← hM'] at HNX HST HNS HNE ⊢
        clear hM'
        generalize M.err d.q = er
        generalize M.ok d.q = okk
        generalize (M.tell d.q).length = n4
        have hal : Fr [] w4 (w4.alloc (.cells #[.int .i64 M'.seq, .int .i64 M'.H.rows.length, .int .i64 M'.H.hor, .int .i64 er, .bool okk, .slice s4 n4 c4] 32)) := (Fr.refl [] w4).alloc _
        have HR := Lib.hid (new_block w4 (.cells #[.int .i64 M'.seq, .int .i64 M'.H.rows.length, .int .i64 M'.H.hor, .int .i64 er, .bool okk, .slice s4 n4 c4] 32))
        obtain ⟨p0, p1, p2, p3, p4, p5, p6⟩ := HCW.out
        have hg4 : g < w4.heap.size := by have := HF.out.size; omega
        have n1 : ¬ g = w4.heap.size := by omega
        have n2 : ¬ w4.heap.size = g := by omega
        go_wp2_with (go_at_call 12; refine go_stop ?_)
        unfold Stop
        replace HF := Lib.hid (HF.out.trans hal (by simp))
        refine (txn_may d.q d.c d.t d.e _ (HRQ.out.keep0 HF.out)).mono ?_
        rintro e w5 ⟨rfl, h1⟩
        have hf5 := hal.trans h1 (by simp)
        replace HF := Lib.hid (HF.out.trans h1 (by simp))
        replace HR := Lib.hid (h1.keep HR.out (by simp))
        replace HB := Lib.hid (show HdAt w5 w3.heap.size M from hf5.keep HB.out (by simp))
        replace HS := Lib.hid (HS.out.keep hf5 (by simp))
        replace p0 := hf5.cell p0 (by simp)
        have hl5 := hf5.size
        have hr5 := lt_of_block HR.out
        clear p1 p2 p3 p4 p5 p6 n1 n2 h1 hal hf5
        obtain ⟨r0, r1, r2, r3, r4, r5, _⟩ := cells6 HR.out
        have n1 : ¬ g = w5.heap.size := by omega
        have n2 : ¬ w5.heap.size = g := by omega
        have n3 : ¬ w4.heap.size = w5.heap.size := by omega
        have n4 : ¬ w5.heap.size = w4.heap.size := by omega
        have hal2 : Fr [] w5 (w5.alloc (.cells #[.int .i64 M'.seq, .int .i64 M'.H.rows.length, .int .i64 M'.H.hor] 28)) := (Fr.refl [] w5).alloc _
        have HB9 := Lib.hid (new_block w5 (.cells #[.int .i64 M'.seq, .int .i64 M'.H.rows.length, .int .i64 M'.H.hor] 28))
        replace HF := Lib.hid (HF.out.trans hal2 (by simp))
        replace HB := Lib.hid (show HdAt (w5.alloc (.cells #[.int .i64 M'.seq, .int .i64 M'.H.rows.length, .int .i64 M'.H.hor] 28)) w3.heap.size M from hal2.keep HB.out (by simp))
        replace HS := Lib.hid (HS.out.keep hal2 (by simp))
        have HB59 : Hid (w3.heap.size < w5.heap.size) := Lib.hid (by
          have := lt_of_block HB.out
          have h2 : (w5.alloc (.cells #[.int .i64 M'.seq, .int .i64 M'.H.rows.length, .int .i64 M'.H.hor] 28)).heap.size = w5.heap.size + 1 := by simp
          rcases Nat.lt_or_ge w3.heap.size w5.heap.size with h3 | h3
          · exact h3
          · have := HBlt.out; omega)
        clear hal2
        rcases (by cases hm : mayQ d.q with
          | false => exact Or.inl ⟨by unfold mayE; rw [hm]; rfl, by unfold entryB; rw [hm]; rfl⟩
          | true =>
            by_cases hk : d.q.kind = 2
            · exact Or.inr (Or.inl ⟨by unfold mayE; rw [hm]; rfl, by simp [hk], by unfold entryB; rw [hm, decide_eq_true hk]; rfl⟩)
            · exact Or.inr (Or.inr ⟨by unfold mayE; rw [hm]; rfl, by simp [hk], by unfold entryB; rw [hm, decide_eq_false hk]; rfl⟩) : (mayE d.q = 1 ∧ entryB d.q = false) ∨ (mayE d.q = 0 ∧ (d.q.kind != 2) = false ∧ entryB d.q = false) ∨ (mayE d.q = 0 ∧ (d.q.kind != 2) = true ∧ entryB d.q = true)) with ⟨hm, he⟩ | ⟨hm, tk, he⟩ | ⟨hm, tk, he⟩
        all_goals
          rw [hm]
          clear hm
          go_wp2_with fail
        all_goals (try rw [tk])
        all_goals
          generalize w5.alloc (.cells #[.int .i64 M'.seq, .int .i64 M'.H.rows.length, .int .i64 M'.H.hor] 28) = wz at *
          generalize w5.heap.size = b9 at *
          generalize hb3 : w3.heap.size = b3 at *
          have HB3E := Lib.hid hb3
          clear hb3
          clear p0 n1 n2 n3 n4 r0 r1 r2 r3 r4 r5 hl5 hr5 hg4
          obtain ⟨m0, m1, m2, _⟩ := cells3 HB9.out
          have hb := HB.out
          unfold HdAt at hb
          have HBK := Lib.hid hb
          obtain ⟨k0, k1, k2, _⟩ := cells3 hb
          have hst := HST.out
          obtain ⟨f1, f2, f3, f4, f5, f6, f7⟩ := hst
          rw [HNX.out] at HS
          have HHD : Hid (∀ n : After [] wz, Calls Try.prog 13 #[.pointer (some ⟨p, 0, none⟩)] n.now fun e w' => e = .returned (.agg #[.int .i64 M'.seq, .int .i64 M'.H.rows.length, .int .i64 M'.H.hor]) ∧ Fr [] n.now w') := Lib.hid (fun n => mdl_head (HS.out.keep n.fr (by simp)))
          have cm1 := fun W => run_neq_hd M'.seq M'.H.rows.length M'.H.hor W
          have tb : decide ((M'.H.rows.length : Int) < (M.H.rows.length : Int)) = false := by simp; omega
          have tc : decide ((M'.H.hor : Int) < (M.H.hor : Int)) = false := by simp; omega
          have td : decide ((M'.H.rows.length : Int) < (M'.H.hor : Int)) = false := by simp; omega
          have tb' : decide (M'.H.rows.length < M.H.rows.length) = false := by simp; omega
          have tc' : decide (M'.H.hor < M.H.hor) = false := by simp; omega
          have td' : decide (M'.H.rows.length < M'.H.hor) = false := by simp; omega
          have te : decide ((M'.H.hor : Int) + 16 < (M'.H.rows.length : Int)) = false := by simp; omega
          have tf : decide ((M.H.rows.length : Int) + 1 < (M'.H.rows.length : Int)) = false := by simp; omega
          have sm1 : IntKind.i64.wrap ((M'.H.hor : Int) + 16) = (M'.H.hor : Int) + 16 := IntWalk.i64_in _ (by omega)
          have sm2 : IntKind.i64.wrap ((M.H.rows.length : Int) + 1) = (M.H.rows.length : Int) + 1 := IntWalk.i64_in _ (by omega)
          have sm3 : IntKind.i64.wrap ((M.seq : Int) + 1) = (M.seq : Int) + 1 := IntWalk.i64_in _ (by omega)
        all_goals first
          | (have hM := HNS.out he
             have ta : ((M'.seq : Int) == (M.seq : Int) + 1) = false := beq_eq_false_iff_ne.2 (by rw [hM]; omega)
             have cm2 : ∀ W : World, (binOp .neq 28 (.agg #[.int .i64 M'.seq, .int .i64 M'.H.rows.length, .int .i64 M'.H.hor]) (.agg #[.int .i64 M.seq, .int .i64 M.H.rows.length, .int .i64 M.H.hor])).run Try.prog W = .ok (.bool false) W := fun W => by rw [← hM]; exact run_neq_hd _ _ _ W
             clear hM)
          | (have hM := HNE.out he
             have ta : ((M'.seq : Int) == (M.seq : Int) + 1) = true := by rw [hM]; simp
             clear hM)
        all_goals
          clear f1 f2 f3 f4 f5 f6 f7 hsq hrq
          have A0 := fun n : After [] wz => n.cell m0 (by simp)
          have A1 := fun n : After [] wz => n.cell m1 (by simp)
          have A2 := fun n : After [] wz => n.cell m2 (by simp)
          have A3 := fun n : After [] wz => n.cell k0 (by simp)
          have A4 := fun n : After [] wz => n.cell k1 (by simp)
          have A5 := fun n : After [] wz => n.cell k2 (by simp)
          refine wp_region_after [] (by kernel_rfl) (by kernel_rfl) ?_
          repeat (go_big_quiet_step ((go_at_call 13; exact After.quiet (HHD.out _))))
          refine wpQuiet_nil ?_
          rintro _ ⟨nq, rfl⟩
          have hf7 := nq.fr
          clear A0 A1 A2 A3 A4 A5
          generalize nq.now = w7 at hf7 ⊢
          have HF7 := Lib.hid hf7
          clear hf7
        all_goals
          have HBW := Lib.hid (HF7.out.keep HBK.out (by simp))
          replace HF := Lib.hid (HF.out.trans HF7.out (by simp))
          replace HS := Lib.hid (HS.out.keep HF7.out (by simp))
          clear m0 m1 m2 k0 k1 k2
          obtain ⟨y0, y1, y2, _⟩ := cells3 HBW.out
          obtain ⟨z0, z1, z2, _⟩ := cells3 (HF7.out.keep HB9.out (by simp))
          have hb3 := HB3E.out
          clear HB3E
          subst hb3
          go_wp2_with fail
          go_roundw
        all_goals first
          | (show _ < _; simp [intOf]; omega)
          | (have hset : Fr [w3.heap.size] w7 (((w7.setCell ⟨w3.heap.size, 0, none⟩ (.int .i64 M'.seq)).setCell ⟨w3.heap.size, 1, none⟩ (.int .i64 M'.H.rows.length)).setCell ⟨w3.heap.size, 2, none⟩ (.int .i64 M'.H.hor)) := (((Fr.refl _ w7).setCell (p := ⟨w3.heap.size, 0, none⟩) (Or.inl (by simp)) _).setCell (p := ⟨w3.heap.size, 1, none⟩) (Or.inl (by simp)) _).setCell (p := ⟨w3.heap.size, 2, none⟩) (Or.inl (by simp)) _
             have hblk : HdAt (((w7.setCell ⟨w3.heap.size, 0, none⟩ (.int .i64 M'.seq)).setCell ⟨w3.heap.size, 1, none⟩ (.int .i64 M'.H.rows.length)).setCell ⟨w3.heap.size, 2, none⟩ (.int .i64 M'.H.hor)) w3.heap.size M' := by have := set_block (set_block (set_block HBW.out 0 (.int .i64 M'.seq)) 1 (.int .i64 M'.H.rows.length)) 2 (.int .i64 M'.H.hor); simpa [HdAt] using this
             refine ⟨j + 1, S4, by go_num, by omega, Lib.hid ?_, HG4, Lib.hid ?_, Lib.hid ?_, Lib.hid ?_⟩
             · rw [HNX.out]; exact HS.out.keep hset (fun k hk hm => HN.out (by simp at hm; rw [← hm]; exact hk))
             · exact HN.out
             · rw [HNX.out]; exact hblk
             · exact HF.out.trans hset (fun k hk => Or.inr (by simp at hk; rw [hk]; exact HW3.out)))
      · have t1 : decide ((j : Int) < (l.length : Int)) = false := by simp; omega
        go_wp2_with fail
        go_ret
        exact ⟨rfl, HF.out.below (Nat.le_refl _) (by simp)⟩

set_option maxRecDepth 100000 in
theorem contract (H : Type) (enc : TypeId × Value → H) (W : World) (base : Nat) (args : Array Value) (ds gs : List (DataW H)) (before : List MemPlace)
    (hval0 : ∀ (j : Nat) t v, Try.f3.params[j]? = some t → args[j]? = some v → Value.okWide Try.prog W .any base t v)
    (hW : DataW.Whole enc Try.prog Try.f3.params.toList Rows.modelHeadsSpec.vars false W args.toList ds gs before) :
    Calls Try.prog 3 args W fun e W' => ∃ v, e = .returned v ∧ Rows.modelHeadsSpec.post enc Try.prog Try.f3 false true false false W args v W' := by
  have hval : ∀ (j : Nat) t v, Try.f3.params[j]? = some t → args[j]? = some v → Value.okWide Try.prog W .any base t v := hval0
  have hW' := hW
  obtain ⟨p, q, hA0, hV, rfl, hfz, hnd⟩ := hW
  have hA : DataW.TrodAll enc Try.prog W 0 (fun _ => true) true Try.f3.params.toList args.toList ds p := hA0
  rw [Try.params3] at hA hval
  obtain ⟨v0, vs0, d0, ds0, p0, q0, hargs, rfl, rfl, h0, r0⟩ := trodAll_cons hA
  obtain ⟨rfl, rfl, rfl⟩ := trodAll_nil r0
  obtain rfl : args = #[v0] := by cases args; simp_all
  obtain ⟨rfl, rfl⟩ := trodVars_none hV
  have k0 := h0
  have lt0 : ∀ x ∈ p0, x.block < W.heap.size := by obtain ⟨m, hm⟩ := k0; exact DataW.trod_lt m _ _ _ hm
  obtain ⟨l, hl⟩ := open_reqs (hval 0 22 v0 rfl rfl) h0
  clear hA0 hval0 hval
  refine (walk v0 l W hl).mono fun e W' ⟨he, bel⟩ => ?_
  subst he
  exact ⟨_, rfl, _, _, _, [], _, [], hW', trodAll_mk1 (shut_bool Try.underlying4 _), (trodAll_cons_mk (Below.trod laid_prog (by kernel_rfl) (of_decide_eq_true (by kernel_rfl)) k0 bel lt0) trodAll_mk0), rfl, bel.frame _, fun h => by cases h⟩

set_option maxRecDepth 100000 in
theorem lifted (os : Os) (started : os.Started) (H : Type) (enc : TypeId × Value → H) :
    ReturnsInHanded {} Try.checked os 3 .any (Rows.modelHeadsSpec.pre6 enc Try.prog Try.f3 Rows.modelHeadsRow.domain false) (Rows.modelHeadsSpec.post enc Try.prog Try.f3 false true false false) := by
  refine returnsInHanded_of_change (C := Try.checked) own_prog started (by kernel_rfl) Try.func3
    (ChangeSpec.witness6 (enc := enc) (C := Try.checked) false ⟨#[], #[.slice none 0 0], []⟩ 8 (by kernel_rfl) (by kernel_rfl) (by kernel_rfl) (by kernel_rfl)) ?_
  intro W base args ds gs before hval hW _ _
  exact contract H enc W base args ds gs before hval hW

theorem proved : Rows.ModelHeadsSaid :=
  OpenClaim.holds_of_wide 3 Try.f3 rfl rfl rfl rfl rfl rfl rfl ⟨rfl, rfl, rfl, rfl, rfl⟩ rfl rfl rfl rfl rfl (by kernel_rfl) Try.func3 (by kernel_rfl)
    (of_decide_eq_true (by kernel_rfl)) (by unfold Func.isWrapper; first | (rw [if_pos (by decide +kernel)]; kernel_rfl) | (rw [if_neg (by decide +kernel)]; exact ⟨rfl, rfl⟩))
    (fun os started H enc _ => lifted os started H enc)

end Go.Proofs.Ytlklmmpblgcaoaa.lawModelHeads
