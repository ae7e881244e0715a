/- A LOG BESIDE THE MODEL, PLAINLY: what an entry that is decided, stepped and answered leaves and tells is what the model's does. The law's own ops, and the document's comparison of answers: contracts -/
import Derived.Test.YtmipllkgioakoaaGreatFrAw
import Derived.Test.YtmipllkgioakoaaGreatModelS
import Derived.Test.YtmipllkgioakoaaGreatMdLaw
namespace Go.Proofs.YtmipllkgioakoaaGreat
open Go.RowKit
set_option linter.unusedVariables false
set_option linter.unusedSimpArgs false

/-- events as ops -/
def Ev.od (e : Ev) : Od := ⟨e.key, e.val, e.del, e.wf⟩
theorem od_ev {o : Od} (h : opB o = true) (r : Int) : (Od.ev r o).od = o := by
  unfold opB at h
  simp only [Bool.and_eq_true, Bool.not_eq_true', Bool.and_eq_false_iff, decide_eq_false_iff_not] at h
  rcases o with ⟨k, v, d, wf⟩
  cases d
  · rfl
  · have hv : v = ⟨#[]⟩ := by
      rcases h.2 with h2 | h2
      · cases h2
      · have h3 : v.size = 0 := by
          have : ¬ 0 < v.size := h2
          omega
        rcases v with ⟨d⟩
        have : d.size = 0 := h3
        rw [Array.eq_empty_of_size_eq_zero this]
    subst hv
    rfl
theorem may_ops {q : Rq} (h : mayQ q = true) (hk : q.kind = 1) : (∀ o ∈ q.thn, opB o = true) ∧ ∀ o ∈ q.els, opB o = true := by
  unfold mayQ at h
  rw [if_pos hk] at h
  simp only [Bool.and_eq_true, opsB, List.all_eq_true] at h
  exact ⟨h.1.2.1.1, h.2.1.1⟩
theorem back_ops {q : Rq} {m : List Kv} (h : mayQ q = true) (hk : q.kind = 1) (r : Int) : (evL r (planL m q)).map Ev.od = planL m q := by
  unfold evL
  rw [List.map_map]
  have key : ∀ l : List Od, (∀ o ∈ l, opB o = true) → l.map (Ev.od ∘ Od.ev r) = l := by
    intro l hl
    induction l with
    | nil => rfl
    | cons x t ih =>
      rw [List.map_cons, ih (fun o ho => hl o (List.mem_cons_of_mem _ ho))]
      have := od_ev (hl x (by simp)) r
      simp only [Function.comp_apply]
      rw [this]
  obtain ⟨h1, h2⟩ := may_ops h hk
  refine key _ fun o ho => ?_
  rcases (plan_sub o ho).2 with h3 | h3
  · exact h1 o h3
  · exact h2 o h3
/-- what an entry leaves, beside what the model's leaves -/
structure Beside (M : MA) (q : Rq) (P : Pl) : Prop where
  seq : wrap64 ((M.seq : Int) + 1) = ((M.next q).seq : Int)
  rev : stR (M.H.rows.length : Int) P.rows.length = ((M.next q).H.rows.length : Int)
  hor : max (M.H.hor : Int) P.hor = ((M.next q).H.hor : Int)
  err : P.err = M.err q
  ok : (P.ok && decide (P.err = 0)) = M.ok q
  tell : M.tell q = []
  len : P.rows.length ≤ 20
  com : P.err = 0 → q.kind = 3 → (M.next q).H = (M.H.app (P.rows.map Ev.od)).com P.hor
  app : ¬ (P.err = 0 ∧ q.kind = 3) → (M.next q).H = M.H.app (P.rows.map Ev.od)
theorem room_chE {M : MA} {n : Nat} (h : MOk M n) (hn : n ≤ 1000) : roomE (M.H.rows.length : Int) (M.H.hor : Int) = if 1000 ≤ M.H.rows.length then 9 else if M.H.hor + 16 < M.H.rows.length + 1 then 3 else 0 := by
  have h1 := h.hok.rev
  have h2 := h.hok.hor
  unfold roomE
  rw [fw64 (n := (M.H.rows.length : Int) + 1) (by omega) (by omega), fw64 (by omega) (by omega)]
  by_cases a : 1000 ≤ M.H.rows.length
  · rw [if_pos (by omega), if_pos a]
  · rw [if_neg (by omega), if_neg a]
    by_cases b : M.H.hor + 16 < M.H.rows.length + 1
    · rw [if_pos (by omega), if_pos b]
    · rw [if_neg (by omega), if_neg b]
theorem row_plan {M : MA} {q : Rq} (h : mayQ q = true) (hk : q.kind = 1) : rowOf M.H.rows (planL M.map q) = evL ((M.H.rows.length : Int) + 1) (planL M.map q) := by
  unfold rowOf evL
  rw [show mapN M.H.rows M.H.rows.length = M.map from rfl, cnt_plan (plan_nodup (m := M.map) h hk).1 (fun o ho => (plan_sub o ho).1)]
theorem beside {M : MA} {n : Nat} {q : Rq} (hM : MOk M n) (hn : n ≤ 1000) (h : mayQ q = true) (h2 : q.kind ≠ 2) : Beside M q (decP q M.map M.H.rows.length M.H.hor) := by
  have hs := hM.seq
  have hr := hM.hok.rev
  have hh := hM.hok.hor
  have hseq : wrap64 ((M.seq : Int) + 1) = ((M.seq + 1 : Nat) : Int) := by rw [fw64 (by omega) (by omega)]; omega
  have w1 : wrap64 ((M.H.rows.length : Int) + 1) = (M.H.rows.length : Int) + 1 := fw64 (by omega) (by omega)
  rcases kind_of h with hk | hk | hk
  · -- a transaction
    have hnx : M.next q = ⟨M.seq + 1, if M.chE q = 0 then M.H.app (planL M.map q) else M.H⟩ := by
      unfold MA.next; rw [if_pos h, if_neg (by omega), if_neg (by omega)]
    have her : M.err q = M.chE q := by unfold MA.err; rw [if_pos h, if_neg (by omega), if_neg (by omega)]
    have htl : M.tell q = [] := by unfold MA.tell; rw [if_neg (fun hc => by omega)]
    have hok : M.ok q = (decide (M.chE q = 0) && holdsC M.map q.cmps) := by
      unfold MA.ok; rw [her]
      by_cases a : M.chE q = 0
      · rw [decide_eq_true ⟨h, hk, a⟩, decide_eq_true a]
      · rw [decide_eq_false (fun hc => a hc.2.2), decide_eq_false a]
    have hdc : decP q M.map M.H.rows.length M.H.hor = chP q M.map M.H.rows.length M.H.hor := by unfold decP; rw [if_pos hk]
    rw [hdc]
    have hpl := planL_len M.map q
    have hch : ∀ e, M.chE q = e → planL M.map q ≠ [] → roomE (M.H.rows.length : Int) (M.H.hor : Int) = e := by
      intro e he hp
      rw [room_chE hM hn, ← he]; unfold MA.chE; rw [if_neg hp]
    rcases chP_cases q M.map M.H.rows.length M.H.hor with ⟨hp, e⟩ | ⟨hp, h0, e⟩ | ⟨hp, h0, e⟩
    · have hz : M.chE q = 0 := by unfold MA.chE; rw [if_pos hp]
      rw [e]
      rw [hp, app_nil, if_pos hz] at hnx
      refine ⟨by rw [hnx]; exact hseq, by rw [hnx]; rfl, by rw [hnx]; show max (M.H.hor : Int) 0 = (M.H.hor : Int); omega, by rw [her, hz], by rw [hok, hz]; simp, htl, Nat.zero_le _, fun _ h3 => absurd h3 (by omega), fun _ => by rw [hnx]; exact (app_nil _).symm⟩
    · have hz : M.chE q = 0 := by
        have := hch _ rfl hp; rw [h0] at this; exact this.symm
      rw [e]
      rw [if_pos hz] at hnx
      have hrow := row_plan (M := M) h hk
      have hne : evL ((M.H.rows.length : Int) + 1) (planL M.map q) ≠ [] := by
        unfold evL; intro hc; exact hp (List.map_eq_nil_iff.1 hc)
      have hln : (M.H.app (planL M.map q)).rows.length = M.H.rows.length + 1 := by
        unfold HA.app; rw [hrow]; unfold putR; rw [if_neg hne]; simp
      refine ⟨by rw [hnx]; exact hseq, ?_, ?_, by rw [her, hz], by rw [hok, hz]; simp, htl, ?_, fun _ h3 => absurd h3 (by omega), fun _ => ?_⟩
      · rw [hnx]
        show stR _ (evL _ _).length = (((M.H.app (planL M.map q)).rows.length : Nat) : Int)
        rw [hln]
        unfold stR
        rw [if_neg (by rw [evL_len]; intro hc; exact hp (List.eq_nil_of_length_eq_zero hc)), w1]
        omega
      · rw [hnx]; show max (M.H.hor : Int) 0 = (M.H.hor : Int); omega
      · show (evL _ _).length ≤ 20
        rw [evL_len]
        have := (plan_nodup (m := M.map) h hk).2
        omega
      · rw [hnx]
        show M.H.app (planL M.map q) = M.H.app ((evL _ _).map Ev.od)
        rw [back_ops h hk]
    · have hz : M.chE q = roomE (M.H.rows.length : Int) (M.H.hor : Int) := (hch _ rfl hp).symm
      have hz0 : M.chE q ≠ 0 := by rw [hz]; exact h0
      rw [e]
      rw [if_neg hz0] at hnx
      refine ⟨by rw [hnx]; exact hseq, by rw [hnx]; rfl, by rw [hnx]; show max (M.H.hor : Int) 0 = (M.H.hor : Int); omega, by rw [her, hz], by rw [hok, decide_eq_false hz0]; rfl, htl, Nat.zero_le _, fun h9 => absurd h9 h0, fun _ => by rw [hnx]; exact (app_nil _).symm⟩
  · exact absurd hk h2
  · -- a compaction
    have hnx : M.next q = ⟨M.seq + 1, M.H.com q.rev⟩ := by
      unfold MA.next; rw [if_pos h, if_neg (by omega), if_pos hk]
    have her : M.err q = M.H.comE q.rev := by unfold MA.err; rw [if_pos h, if_neg (by omega), if_pos hk]
    have htl : M.tell q = [] := by unfold MA.tell; rw [if_neg (fun hc => by omega)]
    have hok : M.ok q = false := by unfold MA.ok; rw [decide_eq_false (fun hc => by omega)]; rfl
    have hdc : decP q M.map M.H.rows.length M.H.hor = coP q.rev M.H.rows.length := by unfold decP; rw [if_neg (by omega), if_pos hk]
    have h0 : 0 ≤ q.rev := by
      unfold mayQ at h
      rw [if_neg (by omega), if_neg (by omega), if_pos hk] at h
      exact of_decide_eq_true h
    rw [hdc]
    unfold coP
    by_cases a : (M.H.rows.length : Int) < q.rev
    · have hc : M.H.comE q.rev = 6 := by unfold HA.comE; rw [if_neg (by omega), if_pos a]
      have hcm : M.H.com q.rev = M.H := by unfold HA.com; rw [if_neg (by rw [hc]; decide)]
      rw [if_pos a]
      rw [hcm] at hnx
      refine ⟨by rw [hnx]; exact hseq, by rw [hnx]; rfl, by rw [hnx]; show max (M.H.hor : Int) 0 = (M.H.hor : Int); omega, by rw [her, hc], by rw [hok]; rfl, htl, Nat.zero_le _, fun h9 => absurd h9 (by decide), fun _ => by rw [hnx]; exact (app_nil _).symm⟩
    · have hc : M.H.comE q.rev = 0 := by unfold HA.comE; rw [if_neg (by omega), if_neg a]
      have hcm : M.H.com q.rev = ⟨M.H.rows, max M.H.hor q.rev.toNat⟩ := by unfold HA.com; rw [if_pos hc]
      rw [if_neg a]
      refine ⟨by rw [hnx]; exact hseq, by rw [hnx, hcm]; rfl, by rw [hnx, hcm]; show max (M.H.hor : Int) q.rev = ((max M.H.hor q.rev.toNat : Nat) : Int); omega, by rw [her, hc], by rw [hok]; rfl, htl, Nat.zero_le _, fun _ _ => by rw [hnx]; show M.H.com q.rev = (M.H.app []).com q.rev; rw [app_nil], fun h9 => absurd ⟨rfl, hk⟩ h9⟩
/-- what is read, beside what the model tells -/
theorem beside_read (M : MA) {q : Rq} (h : mayQ q = true) (hk : q.kind = 2) : M.err q = frE q.rev M.H.rows.length M.H.hor ∧ M.next q = M ∧ M.ok q = false ∧
    (M.err q = 0 → M.tell q = M.H.atL (frV q.rev M.H.rows.length M.H.hor) q.f q.t) ∧ (M.err q ≠ 0 → M.tell q = []) := by
  have her : M.err q = M.H.atE (M.at_ q) := by unfold MA.err; rw [if_pos h, if_pos hk]
  have hat : M.at_ q = frR q.rev M.H.rows.length := rfl
  have hE : M.H.atE (M.at_ q) = frE q.rev M.H.rows.length M.H.hor := by rw [hat]; rfl
  refine ⟨by rw [her, hE], by unfold MA.next; rw [if_pos h, if_pos hk], by unfold MA.ok; rw [decide_eq_false (fun hc => by omega)]; rfl, fun h0 => ?_, fun h0 => (err_quiet h0).2⟩
  rw [her, hE] at h0
  unfold MA.tell
  rw [if_pos ⟨h, hk⟩, hat]
  unfold frV
  rw [if_pos h0]

theorem atL_len {H : HA} {n : Nat} (h : HOk H n) (rev : Int) (f t : ByteArray) : (H.atL rev f t).length ≤ 20 * n := by
  unfold HA.atL
  split
  · refine Nat.le_trans ?_ (Nat.le_trans (mapN_len H.rows rev.toNat) h.flat)
    unfold restrictK
    exact List.length_filter_le _ _
  · exact Nat.zero_le _
end Go.Proofs.YtmipllkgioakoaaGreat
