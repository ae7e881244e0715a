/- PACKAGE hist: Events: contract -/
import Derived.Test.YtmbfcdoemcffpaaHistOne
import Derived.Test.YtmbfcdoemcffpaaHsMap
namespace Go.Proofs.Ytmbfcdoemcffpaa
open Go.RowKit Go.Maps
set_option linter.unusedVariables false
set_option linter.unusedSimpArgs false

theorem evE_zero {H : HA} {rev : Int} : H.evE rev = 0 ↔ H.hor < rev ∧ rev ≤ H.rows.length := by
  unfold HA.evE
  split
  · simp; omega
  · split
    · simp; omega
    · simp; omega
theorem evL_none {H : HA} {rev : Int} (h : H.evE rev ≠ 0) : H.evL rev = [] := by unfold HA.evL; rw [if_neg h]
set_option maxRecDepth 100000 in
set_option maxHeartbeats 4000000 in
theorem hist_evs {w : World} {p : Nat} {S : List Nat} {H : HA} {n : Nat} (rev : Int) (h : Hs w p S H) (hk : HOk H n) (hn : n ≤ 1000) : Calls Try.prog 30 #[.pointer (some ⟨p, 0, none⟩), .int .i64 rev] w fun e w' =>
    ∃ v, e = .returned (.tuple #[v, .int .i64 (H.evE rev)]) ∧ LFar S Ev.cells 4 w' v (H.evL rev) ∧ (∀ k, v.ownBlock = some k → w.heap.size ≤ k) ∧ Fr [] w w' := by
  have hsl := Lib.hid h.lt
  obtain ⟨hwf, rm, km, n1, n2, R, M, b1, b2, h⟩ := h
  have hh1 := hk.hor
  have hh2 := hk.rev
  have hfl : H.rows.flatten.length ≤ 100000 := by have := hk.flat; omega
  have HFLT := Lib.hid hfl
  obtain ⟨E, hE⟩ : ∃ E, E = withinE (H.hor + 1) rev H.rows.length := ⟨_, rfl⟩
  have HE : Hid (H.evE rev = E) := Lib.hid (by
    rw [hE]; unfold HA.evE withinE
    by_cases h1 : rev ≤ H.hor
    · rw [if_pos h1, if_pos (by omega)]
    · rw [if_neg h1, if_neg (show ¬ rev < (H.hor : Int) + 1 by omega)])
  have HNONE := Lib.hid (evL_none (H := H) (rev := rev))
  have HOKE := Lib.hid (evE_zero (H := H) (rev := rev)).1
  have HL : Hid (∀ i : Nat, rev = (i : Int) + 1 → H.evE rev = 0 → H.evL rev = H.rows.getD i []) := Lib.hid (fun i h1 h2 => by
    unfold HA.evL; rw [if_pos h2, h1]; congr 1)
  obtain ⟨rows, hor⟩ := H
  dsimp only at *
  obtain ⟨c0, c1, c2, c3, _⟩ := cells4 h.blk
  have q1 : IntKind.i64.wrap ((hor : Int) + 1) = (hor : Int) + 1 := by simp only [IntKind.wrap, IntKind.signed, IntKind.bits]; simp; omega
  have HWI : Hid (∀ X : World, X.cell? ⟨p, 1, none⟩ = some (.int .i64 rows.length) → Calls Try.prog 49 #[.pointer (some ⟨p, 0, none⟩), .int .i64 ((hor : Int) + 1), .int .i64 rev] X fun e w' => e = .returned (.int .i64 E) ∧ X = w') :=
    Lib.hid (fun X hX => by rw [hE]; exact span_within ((hor : Int) + 1) rev hX)
  have HH := Lib.hid h
  clear h hwf hE b2 hfl
  go_enter Try.func30, Try.ntmps30
  by_cases hE : E = 0
  · subst hE
    obtain ⟨hr1, hr2⟩ := HOKE.out HE.out
    obtain ⟨i, hi⟩ : ∃ i : Nat, rev = (i : Int) + 1 := ⟨(rev - 1).toNat, by omega⟩
    subst hi
    have h3 : hor ≤ i := by omega
    have h4 : i < rows.length := by omega
    obtain ⟨v, hv⟩ := Option.isSome_iff_exists.1 (HH.out.rhas i h3 h4)
    obtain ⟨i2, r, k1, k2, k3, k4⟩ := HH.out.ronly _ v hv
    obtain rfl : i2 = i := by omega
    have hrl : r.length ≤ 4000000000 := by
      have h5 : r ∈ rows := List.mem_of_getElem? k3
      have h6 : r.length ≤ rows.flatten.length := row_len h5
      have := HFLT.out
      omega
    have HEL : Hid (HA.evL ⟨rows, hor⟩ ((i2 : Int) + 1) = r) := Lib.hid (by
      rw [HL.out i2 rfl HE.out, List.getD_eq_getElem?_getD, k3]; rfl)
    have HK4 := Lib.hid k4
    have hlk : ∀ X : World, X.cell? ⟨p, 2, none⟩ = some (.map (some rm)) → Fr [] w X → (Instr.lookup 87 (.map (some rm)) (.int .i64 ((i2 : Int) + 1)) false).run Try.prog X = .ok v X := fun X _ hX => by
      have := (HH.out.rmap.keep hX (by simp)).look (e := (i2 : Int) + 1) KI rows_map (zero_evs _) rfl (KI_ok (by omega) (by omega))
      rw [hv] at this
      exact this
    have HLK := Lib.hid hlk
    clear hlk k1 k2 k3 k4 hv hr1 hr2
    go_wp2_with fail
    go_region_held3 (fun w' => w'.cell? ⟨p, 0, none⟩ = some (.int .i64 hor) ∧ w'.cell? ⟨p, 1, none⟩ = some (.int .i64 rows.length)) (first | go_keep | assumption) (first
      | (go_at_call 44; refine (span_hor (r := hor) (by assumption)).mono ?_; rintro e w1 ⟨rfl, rfl⟩)
      | (go_at_call 49; refine (HWI.out _ (by assumption)).mono ?_; rintro e w1 ⟨rfl, rfl⟩))
    have cw : w.drew.cell? ⟨p, 2, none⟩ = some (.map (some rm)) := c2
    have kl := HLK.out w.drew cw ((Fr.refl [] w).drew)
    have HKD : Hid (EvIn w.drew v r) := Lib.hid (HK4.out.read.keep0 ((Fr.refl [] w).drew))
    go_wp2_with (go_at_call 42; refine (clone_ev v r _ HKD.out hrl).mono ?_; rintro e w3 ⟨v2, rfl, h1, h2⟩; have H1 := Lib.hid h1; have H2 := Lib.hid ((Fr.refl [] w).drew.trans h2 (by simp)); clear h1 h2)
    go_ret2
    refine ⟨v2, by rw [HE.out]; rfl, ?_, fun k hk => H1.out.new k hk, H2.out⟩
    rw [HEL.out]
    exact LFar.of_new (w := w) (EvAt.read H1.out.lies) (fun k hk => H1.out.new k hk) hsl.out
  · have HEN := Lib.hid hE
    have t0 : (E != 0) = true := by simpa using hE
    clear hE
    go_wp2_with fail
    go_region_held3 (fun w' => w'.cell? ⟨p, 0, none⟩ = some (.int .i64 hor) ∧ w'.cell? ⟨p, 1, none⟩ = some (.int .i64 rows.length)) (first | go_keep | assumption) (first
      | (go_at_call 44; refine (span_hor (r := hor) (by assumption)).mono ?_; rintro e w1 ⟨rfl, rfl⟩)
      | (go_at_call 49; refine (HWI.out _ (by assumption)).mono ?_; rintro e w1 ⟨rfl, rfl⟩))
    go_wp2_with fail
    go_ret2
    refine ⟨.slice none 0 0, by rw [HE.out]; rfl, ?_, fun k hk => by simp [Value.ownBlock] at hk, (Fr.refl [] w).drew⟩
    rw [HNONE.out (by rw [HE.out]; exact HEN.out)]
    exact LFar.nil _ _
end Go.Proofs.Ytmbfcdoemcffpaa
