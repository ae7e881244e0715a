/- PACKAGE txn: Keys: contract
PACKAGE txn: mayTxn, may: contracts -/
import Derived.Test.YtjclbgeclopheaaTxMay
import Derived.Test.YtjclbgeclopheaaKeyA
namespace Go.Proofs.Ytjclbgeclopheaa
open Go.RowKit
set_option linter.unusedVariables false
set_option linter.unusedSimpArgs false

theorem rows_three (w : World) (u v x : Value) (a b c : List ByteArray) (ha : StIn w u a) (hb : StIn w v b) (hc : StIn w x c) : Rows (w.alloc (.cells #[u, v, x] 32)) (.slice (some ⟨w.heap.size, 0, none⟩) 3 3) [(u, a), (v, b), (x, c)] := by
  refine ⟨⟨some ⟨w.heap.size, 0, none⟩, 3, rfl, Nat.le_refl _, by unfold maxLen; omega, fun _ => ⟨w.heap.size, 0, rfl, by simp, fun i y hy j hj => ?_⟩⟩, fun y hy => ?_⟩
  · have hi : i < 3 := by have := (List.getElem?_eq_some_iff.1 hy).1; simpa using this
    obtain rfl : j = 0 := by omega
    rw [cell_block (new_block w _)]
    rcases (by omega : i = 0 ∨ i = 1 ∨ i = 2) with rfl | rfl | rfl <;> (simp at hy; subst hy; rfl)
  · have hf := (Fr.refl [] w).alloc (.cells #[u, v, x] 32)
    simp at hy
    rcases hy with rfl | rfl | rfl
    · exact LIn.keep0 ha hf
    · exact LIn.keep0 hb hf
    · exact LIn.keep0 hc hf
theorem keysL_flat (q : Rq) (u v x : Value) : ([(u, q.cmps.map Cm.key), (v, q.thn.map Od.key), (x, q.els.map Od.key)] : List (Value × List ByteArray)).flatMap (·.2) = keysL q := by
  unfold keysL; simp
/-- a list's keys: where they lie -/
theorem keys_form {α : Type} {f : α → ByteArray} {l : List α} {P : Program} {F : FuncId} {args : Array Value} {w : World} (h : Calls P F args w fun e w' => ∃ v, e = .returned v ∧ OutAt stC 9 1 w w' v (l.map f) ∧ Fr [] w w') :
    Calls P F args w fun e w' => ∃ s c, e = .returned (.slice s l.length c) ∧ StIn w' (.slice s l.length c) (l.map f) ∧ Fr [] w w' := by
  refine h.mono ?_
  rintro e w' ⟨v, rfl, ho, hf⟩
  obtain ⟨s, c, hv, _⟩ := ho.lies.form
  rw [List.length_map] at hv
  subst hv
  exact ⟨s, c, rfl, LAt.read ho.lies stC_len, hf⟩
theorem drew_trans {a b : World} (h : Fr [] a.drew b) : Fr [] a b := ((Fr.refl [] a).drew).trans h (by simp)
set_option maxHeartbeats 2000000 in
theorem txn_keysG (q : Rq) (cv tv ev : Value) (w : World) (h : RqIn w q cv tv ev) (b0 : q.cmps.length ≤ 20) (b1 : q.thn.length ≤ 20) (b2 : q.els.length ≤ 20) : Calls Try.prog 11 #[.agg #[.int .i64 q.kind, .string q.f, .string q.t, .int .i64 q.rev, cv, tv, ev]] w fun e w' =>
    ∃ v ks, e = .returned v ∧ StIn w' v ks ∧ Gath (keysL q) ks ∧ Fr [] w w' := by
  obtain ⟨wb, hwb⟩ : ∃ wb, wb = w.alloc (rqB q cv tv ev) := ⟨_, rfl⟩
  have HWB : Hid (wb = w.alloc (.cells #[.int .i64 q.kind, .string q.f, .string q.t, .int .i64 q.rev, cv, tv, ev] 28)) := Lib.hid hwb
  have HF : Hid (Fr [] w wb) := Lib.hid (by rw [hwb]; exact (Fr.refl [] w).alloc _)
  have HR := Lib.hid (h.keep0 HF.out)
  obtain ⟨_, _, _, _, c4, c5, c6, _⟩ := cells7 (show wb.heap[w.heap.size]? = some (.cells #[.int .i64 q.kind, .string q.f, .string q.t, .int .i64 q.rev, cv, tv, ev] 28 (0, 0)) by rw [hwb]; exact new_block w _)
  have HC : Hid (∀ X, Fr [] wb X → Calls Try.prog 26 #[cv] X fun e w' => ∃ s c, e = .returned (.slice s q.cmps.length c) ∧ StIn w' (.slice s q.cmps.length c) (q.cmps.map Cm.key) ∧ Fr [] X w') := Lib.hid fun X hX => keys_form (tx_compared cv q.cmps X (LIn.keep0 HR.out.c hX) (by unfold many; omega))
  have HT : Hid (∀ X, Fr [] wb X → Calls Try.prog 27 #[tv] X fun e w' => ∃ s c, e = .returned (.slice s q.thn.length c) ∧ StIn w' (.slice s q.thn.length c) (q.thn.map Od.key) ∧ Fr [] X w') := Lib.hid fun X hX => keys_form (tx_changed tv q.thn X (LIn.keep0 HR.out.t hX) (by unfold many; omega))
  have HE : Hid (∀ X, Fr [] wb X → Calls Try.prog 27 #[ev] X fun e w' => ∃ s c, e = .returned (.slice s q.els.length c) ∧ StIn w' (.slice s q.els.length c) (q.els.map Od.key) ∧ Fr [] X w') := Lib.hid fun X hX => keys_form (tx_changed ev q.els X (LIn.keep0 HR.out.e hX) (by unfold many; omega))
  clear hwb h
  go_enter Try.func11, Try.ntmps11
  go_wp2_with fail
  rw [← HWB.out]
  have M : Hid True := Lib.hid trivial
  go_region_held3 (fun w' => w'.cell? ⟨w.heap.size, 4, none⟩ = some cv ∧ w'.cell? ⟨w.heap.size, 5, none⟩ = some tv ∧ w'.cell? ⟨w.heap.size, 6, none⟩ = some ev) (first | go_keep | (exact ⟨by assumption, by assumption, by assumption⟩)) (first
    | (go_at_call 26; refine (HC.out _ (by first | exact (Fr.refl _ _).drew | exact Fr.refl _ _)).mono ?_; rintro e w1 ⟨s1, k1, rfl, ho, hf⟩; have F1 := Lib.hid (drew_trans hf); have H1 := Lib.hid ho; have e4 := F1.out.cell c4 (by simp); have e5 := F1.out.cell c5 (by simp); have e6 := F1.out.cell c6 (by simp); clear ho hf c4 c5 c6)
    | (go_at_call 27; have hm := M.out; clear hm M; refine (HT.out _ (by first | exact F1.out | exact F1.out.drew)).mono ?_; rintro e w2 ⟨s2, k2, rfl, ho, hf⟩; have F2 := Lib.hid (F1.out.trans hf (by simp)); have G2 := Lib.hid hf; have H2 := Lib.hid ho; have g4 := hf.cell e4 (by simp); have g5 := hf.cell e5 (by simp); have g6 := hf.cell e6 (by simp); clear ho hf e4 e5 e6)
    | (go_at_call 27; refine (HE.out _ (by first | exact F2.out | exact F2.out.drew)).mono ?_; rintro e w3 ⟨s3, k3, rfl, ho, hf⟩; have F3 := Lib.hid (F2.out.trans hf (by simp)); have G3 := Lib.hid hf; have H3 := Lib.hid ho; have i4 := hf.cell g4 (by simp); have i5 := hf.cell g5 (by simp); have i6 := hf.cell g6 (by simp); clear ho hf g4 g5 g6)
    | (go_at_call 25; refine (tx_gather _ [(.slice s1 q.cmps.length k1, q.cmps.map Cm.key), (.slice s2 q.thn.length k2, q.thn.map Od.key), (.slice s3 q.els.length k3, q.els.map Od.key)] _ (rows_three w3 _ _ _ _ _ _ (LIn.keep0 H1.out (G2.out.trans G3.out (by simp))) (LIn.keep0 H2.out G3.out) H3.out) (by unfold many; simp) (by unfold many; simp [total]; omega)).mono ?_; rintro e w4 ⟨v4, ks, rfl, h4, hg, hf⟩; have H4 := Lib.hid h4; have HG := Lib.hid hg; have F4 := Lib.hid ((F3.out.alloc _).trans hf (by simp)); have j4 := ((Fr.refl [] w3).alloc _).cell i4 (by simp) |> fun h => hf.cell h (by simp); have j5 := ((Fr.refl [] w3).alloc _).cell i5 (by simp) |> fun h => hf.cell h (by simp); have j6 := ((Fr.refl [] w3).alloc _).cell i6 (by simp) |> fun h => hf.cell h (by simp); clear h4 hg hf i4 i5 i6))
  go_wp2
  go_ret
  refine ⟨_, ks, rfl, H4.out, ?_, HF.out.trans F4.out (by simp)⟩
  rw [← keysL_flat]; exact HG.out
end Go.Proofs.Ytjclbgeclopheaa
namespace Go.Proofs.Ytjclbgeclopheaa
open Go.RowKit
set_option linter.unusedVariables false
set_option linter.unusedSimpArgs false

def mayTB (q : Rq) : Bool := cmsB q.cmps && opsB q.thn && opsB q.els
def keysB (l : List ByteArray) : Bool := l.all (fun k => mayB k.toList)
theorem keysB_ext {a b : List ByteArray} (h : ∀ k, k ∈ a ↔ k ∈ b) : keysB a = keysB b := by
  unfold keysB
  rw [Bool.eq_iff_iff, List.all_eq_true, List.all_eq_true]
  exact ⟨fun g k hk => g k ((h k).2 hk), fun g k hk => g k ((h k).1 hk)⟩
theorem cmsB_eq (l : List Cm) : cmsB l = (keysB (l.map Cm.key) && l.all cm1 && decide (l.length ≤ 4)) := by
  unfold cmsB keysB
  congr 1
  rw [Bool.eq_iff_iff, Bool.and_eq_true, List.all_eq_true, List.all_eq_true, List.all_eq_true]
  constructor
  · intro h
    refine ⟨fun k hk => ?_, fun c hc => ?_⟩
    · obtain ⟨c, hc, rfl⟩ := List.mem_map.1 hk
      have := h c hc
      simp only [cmB, Bool.and_eq_true] at this
      exact this.1.1.1
    · have := h c hc
      simp only [cmB, Bool.and_eq_true] at this
      simp only [cm1, Bool.and_eq_true]
      exact ⟨⟨this.1.1.2, this.1.2⟩, this.2⟩
  · rintro ⟨h1, h2⟩ c hc
    have a := h1 _ (List.mem_map.2 ⟨c, hc, rfl⟩)
    have b := h2 c hc
    simp only [cm1, Bool.and_eq_true] at b
    simp only [cmB, Bool.and_eq_true]
    exact ⟨⟨⟨a, b.1.1⟩, b.1.2⟩, b.2⟩
theorem opsB_eq (l : List Od) : opsB l = (keysB (l.map Od.key) && (l.all od1 && decide ((l.map Od.key).Nodup)) && decide (l.length ≤ 4)) := by
  unfold opsB keysB
  congr 1
  rw [← Bool.and_assoc]
  congr 1
  rw [Bool.eq_iff_iff, Bool.and_eq_true, List.all_eq_true, List.all_eq_true, List.all_eq_true]
  constructor
  · intro h
    refine ⟨fun k hk => ?_, fun c hc => ?_⟩
    · obtain ⟨c, hc, rfl⟩ := List.mem_map.1 hk
      have := h c hc
      simp only [opB, Bool.and_eq_true] at this
      exact this.1.1
    · have := h c hc
      simp only [opB, Bool.and_eq_true] at this
      simp only [od1, Bool.and_eq_true]
      exact ⟨this.1.2, this.2⟩
  · rintro ⟨h1, h2⟩ c hc
    have a := h1 _ (List.mem_map.2 ⟨c, hc, rfl⟩)
    have b := h2 c hc
    simp only [od1, Bool.and_eq_true] at b
    simp only [opB, Bool.and_eq_true]
    exact ⟨⟨a, b.1⟩, b.2⟩
def fourB (q : Rq) : Bool := decide (q.cmps.length ≤ 4) && decide (q.thn.length ≤ 4) && decide (q.els.length ≤ 4)
theorem mayTB_eq (q : Rq) : mayTB q = (fourB q && keysB (keysL q) && (q.cmps.all cm1 && (q.thn.all od1 && decide ((q.thn.map Od.key).Nodup)) && (q.els.all od1 && decide ((q.els.map Od.key).Nodup)))) := by
  unfold mayTB
  rw [cmsB_eq, opsB_eq, opsB_eq]
  unfold keysL keysB fourB
  rw [List.all_append, List.all_append]
  generalize (q.cmps.map Cm.key).all _ = a1
  generalize (q.thn.map Od.key).all _ = a2
  generalize (q.els.map Od.key).all _ = a3
  generalize q.cmps.all cm1 = b1
  generalize (q.thn.all od1 && decide ((q.thn.map Od.key).Nodup)) = b2
  generalize (q.els.all od1 && decide ((q.els.map Od.key).Nodup)) = b3
  generalize decide (q.cmps.length ≤ 4) = c1
  generalize decide (q.thn.length ≤ 4) = c2
  generalize decide (q.els.length ≤ 4) = c3
  revert a1 a2 a3 b1 b2 b3 c1 c2 c3
  decide
theorem keysL_wf {q : Rq} {k : ByteArray} (h : k ∈ keysL q) : k.size ≤ maxLen := by
  unfold keysL at h
  simp only [List.mem_append, List.mem_map] at h
  rcases h with (⟨c, _, rfl⟩ | ⟨c, _, rfl⟩) | ⟨c, _, rfl⟩
  · exact c.wf.1
  · exact c.wf.1
  · exact c.wf.1
theorem kall_take {p : ByteArray → Bool} {l : List ByteArray} {j : Nat} {x : ByteArray} (hx : l[j]? = some x) : (l.take (j + 1)).all p = ((l.take j).all p && p x) := by
  rw [List.take_add_one, hx, List.all_append]; simp
theorem kall_no {p : ByteArray → Bool} {l : List ByteArray} {j : Nat} {x : ByteArray} (hx : l[j]? = some x) (h : p x = false) : l.all p = false := by
  rw [List.all_eq_false]
  exact ⟨x, List.mem_of_getElem? hx, by simp [h]⟩
theorem run_max3 {P : Program} (a b c : Nat) : ∃ m : Nat, (∀ ts ty W, (Builtin.max_ ts ty #[.int .i64 a, .int .i64 b, .int .i64 c]).run P W = .ok (.int .i64 m) W) ∧ (m ≤ 4 ↔ (a ≤ 4 ∧ b ≤ 4 ∧ c ≤ 4)) := by
  refine ⟨max (max a b) c, fun ts ty W => ?_, by omega⟩
  simp only [Builtin.max_, List.foldlM, Builtin.max2]
  simp
  split <;> split <;> omega
set_option maxHeartbeats 2000000 in
theorem tx_mayTxn (q : Rq) (cv tv ev : Value) (w : World) (h : RqIn w q cv tv ev) : Calls Try.prog 45 #[.agg #[.int .i64 q.kind, .string q.f, .string q.t, .int .i64 q.rev, cv, tv, ev]] w fun e w' => e = .returned (.bool (mayTB q)) ∧ Fr [] w w' := by
  obtain ⟨s1, c1, rfl, la1, ma1⟩ := LIn.form h.c
  obtain ⟨s2, c2, rfl, la2, ma2⟩ := LIn.form h.t
  obtain ⟨s3, c3, rfl, la3, ma3⟩ := LIn.form h.e
  unfold maxLen at ma1 ma2 ma3
  obtain ⟨wb, hwb⟩ : ∃ wb, wb = w.alloc (rqB q (.slice s1 q.cmps.length c1) (.slice s2 q.thn.length c2) (.slice s3 q.els.length c3)) := ⟨_, rfl⟩
  have HWB : Hid (wb = w.alloc (.cells #[.int .i64 q.kind, .string q.f, .string q.t, .int .i64 q.rev, .slice s1 q.cmps.length c1, .slice s2 q.thn.length c2, .slice s3 q.els.length c3] 28)) := Lib.hid hwb
  have HF : Hid (Fr [] w wb) := Lib.hid (by rw [hwb]; exact (Fr.refl [] w).alloc _)
  have HR := Lib.hid (h.keep0 HF.out)
  have HX : Hid (wb.heap[w.heap.size]? = some (.cells #[.int .i64 q.kind, .string q.f, .string q.t, .int .i64 q.rev, .slice s1 q.cmps.length c1, .slice s2 q.thn.length c2, .slice s3 q.els.length c3] 28 (0, 0))) := Lib.hid (by rw [hwb]; exact new_block w _)
  obtain ⟨d0, d1, d2, d3, d4, d5, d6, _⟩ := cells7 HX.out
  have HE := Lib.hid (mayTB_eq q)
  obtain ⟨m, hmx, hm4⟩ := run_max3 (P := Try.prog) q.cmps.length q.thn.length q.els.length
  clear hwb h
  go_enter Try.func45, Try.ntmps45
  by_cases h4 : m ≤ 4
  · have t1 : decide ((4 : Int) < (m : Int)) = false := by simp; omega
    have H4 := Lib.hid (hm4.1 h4)
    clear hm4 h4
    go_upto_region 1 with fail
    rw [← HWB.out]
    go_wp2_with (go_at_call 11; refine (txn_keysG q _ _ _ _ HR.out (by have := H4.out; omega) (by have := H4.out; omega) (by have := H4.out; omega)).mono ?_; rintro e w1 ⟨v1, ks, rfl, h1, h2, h3⟩; refine go_stop ?_)
    unfold Stop
    obtain ⟨s4, c4, rfl, la4, ma4⟩ := LIn.form h1
    have hkl : ks.length ≤ 12 := by
      have := h2.le
      have h5 := H4.out
      unfold keysL at this
      simp at this; omega
    have HKS := Lib.hid h1
    have HG := Lib.hid h2
    have HE2 : Hid (mayTB q = (keysB ks && (q.cmps.all cm1 && (q.thn.all od1 && decide ((q.thn.map Od.key).Nodup)) && (q.els.all od1 && decide ((q.els.map Od.key).Nodup))))) := Lib.hid (by
      rw [HE.out, keysB_ext h2.mem]
      have : fourB q = true := by unfold fourB; simp [H4.out]
      rw [this, Bool.true_and])
    have HF1 := Lib.hid h3
    clear h1 h2 h3 HE t1 hmx d0 d1 d2 d3 d4 d5 d6
    unfold maxLen at ma4
    go_wp2_with fail
    go_loopw [19] (fun i wr => ∃ (j : Nat), i = .int .i64 j ∧ j ≤ ks.length ∧ keysB (ks.take j) = true ∧ Fr [] w1 wr) (fun i _ => ks.length - (intOf i).toNat)
    case atStart => exact ⟨0, rfl, Nat.zero_le _, by simp [keysB], Fr.refl _ _⟩
    case round =>
      obtain ⟨j, rfl, hj, hs, hf⟩ := hrel
      have HS := Lib.hid hs
      have HFK := Lib.hid hf
      have HF2 := Lib.hid (HF1.out.trans hf (by simp))
      clear hs hf
      by_cases h : j < ks.length
      · obtain ⟨x, hx⟩ : ∃ x, ks[j]? = some x := ⟨_, List.getElem?_eq_getElem h⟩
        obtain ⟨g, off, e1, e2, _, _, k1⟩ := StIn.here (LIn.keep0 HKS.out HFK.out) (by omega)
        simp only [Value.slice.injEq] at e2
        obtain ⟨rfl, _, rfl⟩ := e2
        have p0 := k1 j x hx
        have HXX := Lib.hid hx
        have HW : Hid (x.size ≤ maxLen) := Lib.hid (keysL_wf ((HG.out.mem x).1 (List.mem_of_getElem? hx)))
        have t1 : decide (j < ks.length) = true := by simpa using h
        clear hx k1
        go_wp2_with (go_at_call 54; refine (key_may x _ HW.out).mono ?_; rintro e wn ⟨rfl, hfn⟩; refine go_stop ?_)
        unfold Stop
        have HFN := Lib.hid (HFK.out.trans hfn (by simp))
        clear hfn p0
        cases hb : mayB x.toList
        · have HN : Hid (mayTB q = false) := Lib.hid (by
            have : keysB ks = false := kall_no (p := fun k => mayB k.toList) HXX.out hb
            rw [HE2.out, this]; rfl)
          have HFE := Lib.hid (HF.out.trans (HF1.out.trans HFN.out (by simp)) (by simp))
          clear hb
          go_wp2
          go_ret
          exact ⟨by rw [HN.out]; rfl, HFE.out⟩
        · have HT : Hid (keysB (ks.take (j + 1)) = true) := Lib.hid (by
            have h1 := HS.out
            unfold keysB at h1 ⊢
            rw [kall_take HXX.out, h1, hb]; rfl)
          clear hb
          go_wp2_with fail
          go_roundw
          case rel => exact ⟨j + 1, by go_num, by omega, HT.out, HFN.out⟩
          case measure => simp [intOf]; omega
      · have t1 : decide (j < ks.length) = false := by simpa using h
        have hj2 : j = ks.length := by omega
        subst hj2
        have HE3 : Hid (mayTB q = (q.cmps.all cm1 && (q.thn.all od1 && decide ((q.thn.map Od.key).Nodup)) && (q.els.all od1 && decide ((q.els.map Od.key).Nodup)))) := Lib.hid (by
          have := HS.out; rw [List.take_length] at this
          rw [HE2.out, this, Bool.true_and])
        obtain ⟨d0, d1, d2, d3, d4, d5, d6, _⟩ := cells7 (HF2.out.keep HX.out (by simp))
        have HRQ := Lib.hid (HR.out.keep0 HF2.out)
        go_wp2_with (go_at_call 55; refine (tx_mayCmps _ q.cmps _ HRQ.out.c (by have := H4.out; unfold many; omega)).mono ?_; rintro e w2 ⟨rfl, hf2⟩; refine go_stop ?_)
        unfold Stop
        have HF3 := Lib.hid (HF2.out.trans hf2 (by simp))
        have HX3 := Lib.hid (HF3.out.keep HX.out (by simp))
        obtain ⟨d0, d1, d2, d3, d4, d5, d6, _⟩ := cells7 HX3.out
        have HRQ3 := Lib.hid (HR.out.keep0 HF3.out)
        have HZ3 := Lib.hid (HF.out.trans HF3.out (by simp))
        clear hf2
        generalize q.cmps.all cm1 = b1 at HE3 ⊢
        cases b1
        · have HN : Hid (mayTB q = false) := Lib.hid (by rw [HE3.out]; rfl)
          go_wp2
          go_ret
          exact ⟨by rw [HN.out]; rfl, HZ3.out⟩
        · go_wp2_with (go_at_call 56; refine (tx_mayOps _ q.thn _ HRQ3.out.t (by have := H4.out; unfold many; omega)).mono ?_; rintro e w3 ⟨rfl, hf2⟩; refine go_stop ?_)
          unfold Stop
          have HF4 := Lib.hid (HF3.out.trans hf2 (by simp))
          have HX4 := Lib.hid (HF4.out.keep HX.out (by simp))
          obtain ⟨d0, d1, d2, d3, d4, d5, d6, _⟩ := cells7 HX4.out
          have HRQ4 := Lib.hid (HR.out.keep0 HF4.out)
          have HZ4 := Lib.hid (HF.out.trans HF4.out (by simp))
          clear hf2
          generalize (q.thn.all od1 && decide ((q.thn.map Od.key).Nodup)) = b2 at HE3 ⊢
          cases b2
          · have HN : Hid (mayTB q = false) := Lib.hid (by rw [HE3.out]; rfl)
            go_wp2
            go_ret
            exact ⟨by rw [HN.out]; rfl, HZ4.out⟩
          · go_wp2_with (go_at_call 56; refine (tx_mayOps _ q.els _ HRQ4.out.e (by have := H4.out; unfold many; omega)).mono ?_; rintro e w4 ⟨rfl, hf2⟩; refine go_stop ?_)
            unfold Stop
            have HZ5 := Lib.hid (HZ4.out.trans hf2 (by simp))
            clear hf2
            generalize (q.els.all od1 && decide ((q.els.map Od.key).Nodup)) = b3 at HE3 ⊢
            have HN : Hid (mayTB q = b3) := Lib.hid (by rw [HE3.out]; rfl)
            cases b3
            all_goals
              go_wp2
              go_ret
              exact ⟨by rw [HN.out]; rfl, HZ5.out⟩
  · have t1 : decide ((4 : Int) < (m : Int)) = true := by simp; omega
    have HN : Hid (mayTB q = false) := Lib.hid (by
      rw [HE.out]
      have : fourB q = false := by
        unfold fourB
        rw [Bool.eq_false_iff]
        intro hc
        simp only [Bool.and_eq_true, decide_eq_true_eq] at hc
        exact h4 (hm4.2 ⟨hc.1.1, hc.1.2, hc.2⟩)
      rw [this]; rfl)
    clear hm4 h4
    go_upto_region 1 with fail
    rw [← HWB.out]
    go_wp2_with fail
    go_ret
    exact ⟨by rw [HN.out]; rfl, HF.out⟩
end Go.Proofs.Ytjclbgeclopheaa
