/- Whoever enters and exits, whatever is retired, advanced, and freed: each answer, the epoch, and how much is retired, are the document's: for every int and every list of deeds. No condition. -/
import Derived.Test.YtphniphlflijeaaEpochHist
namespace Go.Proofs.Ytphniphlflijeaa.lawEpochPlays
open Go.ChangeShapes Go.WideShapes Go.ChangeAt Go.RowKit Go.Deep
set_option linter.unusedVariables false
set_option linter.unusedSimpArgs false

theorem Going.keep {w wr w5 XB p S A X iv rv j} (h : Going w wr XB p S A X iv rv j) (hf : Fr [] wr w5) : Going w w5 XB p S A X iv rv j :=
  ⟨h.own.keep hf, hf.keep h.box (by simp), h.new, h.ref.keep hf (by simp), h.okA, h.okX⟩

set_option maxRecDepth 100000 in
set_option maxHeartbeats 6000000 in
theorem play (n : Nat) (a1 : Option Addr) (len1 cap1 : Nat) (w : World) (w1 : EDeeds w a1 len1 cap1) (hn1 : 1 ≤ n) (hn8 : n ≤ 8) :
    Calls Try.prog 3 #[.int .i64 n, .slice a1 len1 cap1] w fun e w' => e = .returned (.bool true) ∧ Below w.heap.size w w' := by
  have HD := Lib.hid w1
  have hm : len1 ≤ 9223372036854775807 := by have := w1.1; have := w1.2.1; unfold maxLen at this; omega
  have t1 : decide ((n : Int) < 1) = false := by simp; omega
  have t2 : decide (8 < (n : Int)) = false := by simp; omega
  clear w1
  go_enter Try.func3, Try.ntmps3
  go_wp2_with (first | (go_at_call 9; refine (epoch_awake _).mono ?_; rintro e w1 ⟨rfl, h1⟩; have HA := Lib.hid h1; clear h1) | (go_at_call 10; refine (own_new HA.out n hn1 hn8).mono ?_; rintro e w2 ⟨p, S0, rfl, h2⟩; refine go_stop ?_))
  unfold Stop
  go_wp2_with (go_at_call 11; refine (rnew_any _ n hn8).mono ?_; rintro e w3 ⟨V, rfl, ⟨iv, rv, rfl, hr⟩, hf3⟩; refine go_stop ?_)
  obtain ⟨⟨ia, ic, rfl⟩, ⟨ra, rc, rfl⟩⟩ := hr.forms
  have hG : Going w (w3.alloc (.cells #[.slice ia (XA.new n).inn.length ic, .int .i64 (XA.new n).ep, .slice ra (XA.new n).row.length rc] 29)) w3.heap.size p S0 (PA.new n) (XA.new n) (.slice ia (XA.new n).inn.length ic) (.slice ra (XA.new n).row.length rc) 0 :=
    ⟨(h2.keep hf3).keep ((Fr.refl [] _).alloc _), new_block _ _, by have := h2.2.1.size; have := hf3.size; omega, hr.keep ((Fr.refl [] _).alloc _) (by simp), OkA.new n hn8, OkX.new n hn8⟩
  have HG := Lib.hid hG
  obtain ⟨XB, hXB⟩ : ∃ XB, XB = w3.heap.size := ⟨_, rfl⟩
  have HXB := Lib.hid hXB
  clear h2 hr hf3 hG
  unfold Stop
  unfold refAgg
  go_wp2_with fail
  rw [← hXB]
  clear hXB
  go_loopw [8] (fun i wr => ∃ (j : Nat) (S : List Nat) (A : PA) (X : XA) (iv rv : Value), i = .int .i64 j ∧ j ≤ len1 ∧ j ≤ 80 ∧ Going w wr XB p S A X iv rv j ∧ Rel A X) (fun i _ => 80 - (intOf i).toNat)
  case atStart => exact ⟨0, _, _, _, _, _, rfl, Nat.zero_le _, Nat.zero_le _, by rw [HXB.out]; exact HG.out, Rel.new n⟩
  case round =>
    obtain ⟨j, S, A, X, iv, rv, rfl, hj, hj80, hG, hX⟩ := hrel
    obtain ⟨⟨ia, ic, rfl⟩, ⟨ra, rc, rfl⟩⟩ := hG.ref.forms
    obtain ⟨x0, x1, x2, fx⟩ := cells3 hG.box
    have hXlt : XB < wr.heap.size := lt_of_block hG.box
    have hxr := hG.new
    by_cases hgo : j < len1 ∧ j < 80
    · obtain ⟨hlt, hlt80⟩ := hgo
      have ht1 : decide (j < len1) = true := by simpa using hlt
      have ht2 : decide ((j : Int) < 80) = true := by simp; omega
      obtain ⟨b, off, rfl, hbw, _⟩ := HD.out.2.2 (by omega)
      have hd' := HD.out.keep hG.own.2.1
      obtain ⟨b', off', hbe, hbw', hcells⟩ := hd'.2.2 (by omega)
      simp only [Option.some.injEq, Addr.mk.injEq, and_true] at hbe
      obtain ⟨rfl, rfl⟩ := hbe
      obtain ⟨kind, t, x, c0, c1, c2⟩ := hcells j hlt
      have HDO := Lib.hid (fun W hW => hG.call (by omega) kind t x W hW)
      have HX' := Lib.hid (hX.deed kind t x).1
      have HAL := Lib.hid (hX.deed kind t x).2
      have HOA := Lib.hid (hG.okA.deed kind t x)
      have HOX := Lib.hid (hG.okX.deed kind t x)
      have HXF := Lib.hid hG.xb
      have HBF : Hid (b ∉ S) := Lib.hid (fun h => by have := hG.own.2.2 b h; omega)
      have HCF : Hid (wr.heap.size ∉ S) := Lib.hid (fun h => by have := hG.own.1.lt _ h; omega)
      have HG' := Lib.hid hG
      have q1 : ¬ XB = b := by omega
      have q2 : ¬ wr.heap.size = XB := by omega
      have q3 : ¬ wr.heap.size = b := by omega
      clear hG hcells hd' hX
      go_wp2_with fail
      go_region_held3 (fun w' => w'.cell? ⟨XB, 0, none⟩ = some (.slice ia X.inn.length ic) ∧ w'.cell? ⟨XB, 1, none⟩ = some (.int .i64 X.ep) ∧ w'.cell? ⟨XB, 2, none⟩ = some (.slice ra X.row.length rc) ∧ w'.cell? ⟨b, off + j * 3, none⟩ = some (.int .i64 kind) ∧ w'.cell? ⟨b, off + j * 3 + 1, none⟩ = some (.int .i64 t) ∧ w'.cell? ⟨b, off + j * 3 + 2, none⟩ = some (.int .u64 x)) (go_keep)
        (first | (go_at_call 12; refine (HDO.out _ ?_).mono ?_; · first | exact (Fr.refl _ _).drew | exact ((Fr.refl _ _).alloc _).drew
                  rintro e w4 ⟨V', S', rfl, hp4, hr4, hf4, hS4⟩
                  rw [HAL.out]
                  have hf2 : Fr S wr w4 := by first | exact ((Fr.refl S _).drew).trans hf4 (fun _ h => Or.inl h) | exact (((Fr.refl S _).alloc _).drew).trans hf4 (fun _ h => Or.inl h)
                  try (have hc4 := hf4.keep (p := wr.heap.size) (o := .cells #[.slice none 0 0, .int .i64 0, .slice none 0 0] 29) (by exact new_block wr _) HCF.out; obtain ⟨z0, z1, z2, fz⟩ := cells3 hc4; have HC4 := Lib.hid hc4; clear hc4)
                  have hw4 : wr.heap.size ≤ w4.heap.size := hf2.size
                  have hx4 := hf2.keep HG'.out.box HXF.out
                  have c0' := hf2.cell c0 HBF.out
                  have c1' := hf2.cell c1 HBF.out
                  have c2' := hf2.cell c2 HBF.out
                  have hS5 : ∀ k ∈ S', k ∈ S ∨ wr.heap.size ≤ k := fun k hk => (hS4 k hk).imp id (fun h => by first | exact h | omega | (simp at h; omega))
                  obtain ⟨i4, r4, rfl, h4⟩ := hr4
                  obtain ⟨⟨ja, jc, rfl⟩, ⟨ka, kc, rfl⟩⟩ := h4.forms
                  unfold refAgg
                  obtain ⟨y0, y1, y2, fy⟩ := cells3 hx4
                  have hX4 := lt_of_block hx4
                  have q4 : ¬ w4.heap.size = XB := by omega
                  have q5 : ¬ w4.heap.size = b := by omega
                  have HX4 := Lib.hid hx4
                  have HP4 := Lib.hid hp4
                  have HR4 : Hid (RefS w4 (.agg #[.slice ja (X.deed kind t x).inn.length jc, .int .i64 (X.deed kind t x).ep, .slice ka (X.deed kind t x).row.length kc]) (X.deed kind t x)) := Lib.hid ⟨_, _, rfl, h4⟩
                  have HF4 := Lib.hid hf2
                  have HS5 := Lib.hid hS5
                  clear hx4 hp4 h4 hf4 hS4 hf2 hS5))
      all_goals go_wp2
      · refine at_world (fun W => Going w W XB p S' (A.deed kind t x) (X.deed kind t x) (.slice ja (X.deed kind t x).inn.length jc) (.slice ka (X.deed kind t x).row.length kc) ((j : Int) + 1)) (HG'.out.step (T := [XB]) (Fr.refl [] wr) HP4.out HR4.out HF4.out HS5.out HOA.out HOX.out ?_ (by intro k hk; simp at hk; subst hk; exact ⟨by omega, _, _, HX4.out⟩) ?_) ?_
        · repeat (first | (with_reducible exact Fr.refl _ _) | (with_reducible refine Fr.alloc ?_ _) | (with_reducible refine Fr.drew ?_) | (with_reducible refine Fr.setCell ?_ (Or.inl (by simp)) _))
        · rw [Below.heap_alloc _ _ _ (by simp; exact hX4)]
          simpa using (set_block (set_block (set_block HX4.out 0 _) 1 _) 2 _)
        intro wB hB
        have hx := hB.box
        clear x0 x1 x2 fx y0 y1 y2 fy
        obtain ⟨x0, x1, x2, fx⟩ := cells3 hx
        have hrx := HX'.out
        have he : (X.deed kind t x).ep = (A.deed kind t x).ep := hrx.ep
        have hrl : (X.deed kind t x).row.length = (A.deed kind t x).row.length := by rw [hrx.row]
        obtain ⟨E, hE⟩ : ∃ E, E = (A.deed kind t x).ep := ⟨_, rfl⟩
        obtain ⟨Z, hZ⟩ : ∃ Z, Z = (A.deed kind t x).row.length := ⟨_, rfl⟩
        rw [he, ← hE] at x1
        rw [hrl, ← hZ] at x2
        have t8 : (E == E) = true := by simp
        have t9 : ((Z : Int) == (Z : Int)) = true := by simp
        have HEP : Hid (∀ W, Fr [] wB W → Calls Try.prog 13 #[.pointer (some ⟨p, 0, none⟩)] W fun e w' => e = .returned (.int .i64 E) ∧ W = w') := Lib.hid (fun W hW => by rw [hE]; exact own_epoch (hB.own.keep hW))
        have HLF : Hid (∀ W, Fr [] wB W → Calls Try.prog 14 #[.pointer (some ⟨p, 0, none⟩)] W fun e w' => e = .returned (.int .i64 Z) ∧ Fr [] W w') := Lib.hid (fun W hW => by rw [hZ]; exact own_left (hB.own.keep hW) hB.okA (by omega))
        have HB := Lib.hid hB
        have HE := Lib.hid hE
        have HZ := Lib.hid hZ
        have HX1 := Lib.hid x1
        have HX2 := Lib.hid x2
        clear hB hx hrx he hrl hE hZ x0
        go_region_held3 (fun w' => w'.cell? ⟨XB, 1, none⟩ = some (.int .i64 E) ∧ w'.cell? ⟨XB, 2, none⟩ = some (.slice ka Z kc)) (go_keep)
          (first | (go_at_call 13; refine (HEP.out _ (by exact (Fr.refl _ _).drew)).mono ?_; rintro e w5 ⟨rfl, rfl⟩) | (go_at_call 14; refine (HLF.out _ (by exact (Fr.refl [] wB).drew)).mono ?_; rintro e w6 ⟨rfl, h6⟩; have H6 := Lib.hid (Fr.trans (by exact (Fr.refl [] wB).drew) h6 (by simp)); have z1 := H6.out.cell HX1.out (by simp); have z2 := H6.out.cell HX2.out (by simp); clear h6))
        all_goals go_wp2
        all_goals go_roundw
        case rel => exact ⟨j + 1, S', _, _, _, _, by go_num, by omega, by omega, Going.keep HB.out H6.out, HX'.out⟩
        case measure => simp [intOf]; omega
      · refine at_world (fun W => Going w W XB p S' (A.deed kind t x) (X.deed kind t x) (.slice ja (X.deed kind t x).inn.length jc) (.slice ka (X.deed kind t x).row.length kc) ((j : Int) + 1)) (HG'.out.step (T := [XB, wr.heap.size]) (Fr.refl [] wr) HP4.out HR4.out HF4.out HS5.out HOA.out HOX.out ?_ (by intro k hk; simp at hk; rcases hk with rfl | rfl; exact ⟨by omega, _, _, HX4.out⟩; exact ⟨HG'.out.own.2.1.size, _, _, HC4.out⟩) ?_) ?_
        · repeat (first | (with_reducible exact Fr.refl _ _) | (with_reducible refine Fr.alloc ?_ _) | (with_reducible refine Fr.drew ?_) | (with_reducible refine Fr.setCell ?_ (Or.inl (by simp)) _))
        · have hne : XB ≠ wr.heap.size := fun h => q2 h.symm
          simpa using (set_block (set_block (set_block (set_other (set_other (set_other HX4.out hne 0 _) hne 1 _) hne 2 _) 0 _) 1 _) 2 _)
        intro wB hB
        have hx := hB.box
        clear x0 x1 x2 fx y0 y1 y2 fy
        obtain ⟨x0, x1, x2, fx⟩ := cells3 hx
        have hrx := HX'.out
        have he : (X.deed kind t x).ep = (A.deed kind t x).ep := hrx.ep
        have hrl : (X.deed kind t x).row.length = (A.deed kind t x).row.length := by rw [hrx.row]
        obtain ⟨E, hE⟩ : ∃ E, E = (A.deed kind t x).ep := ⟨_, rfl⟩
        obtain ⟨Z, hZ⟩ : ∃ Z, Z = (A.deed kind t x).row.length := ⟨_, rfl⟩
        rw [he, ← hE] at x1
        rw [hrl, ← hZ] at x2
        have t8 : (E == E) = true := by simp
        have t9 : ((Z : Int) == (Z : Int)) = true := by simp
        have HEP : Hid (∀ W, Fr [] wB W → Calls Try.prog 13 #[.pointer (some ⟨p, 0, none⟩)] W fun e w' => e = .returned (.int .i64 E) ∧ W = w') := Lib.hid (fun W hW => by rw [hE]; exact own_epoch (hB.own.keep hW))
        have HLF : Hid (∀ W, Fr [] wB W → Calls Try.prog 14 #[.pointer (some ⟨p, 0, none⟩)] W fun e w' => e = .returned (.int .i64 Z) ∧ Fr [] W w') := Lib.hid (fun W hW => by rw [hZ]; exact own_left (hB.own.keep hW) hB.okA (by omega))
        have HB := Lib.hid hB
        have HE := Lib.hid hE
        have HZ := Lib.hid hZ
        have HX1 := Lib.hid x1
        have HX2 := Lib.hid x2
        clear hB hx hrx he hrl hE hZ x0
        go_region_held3 (fun w' => w'.cell? ⟨XB, 1, none⟩ = some (.int .i64 E) ∧ w'.cell? ⟨XB, 2, none⟩ = some (.slice ka Z kc)) (go_keep)
          (first | (go_at_call 13; refine (HEP.out _ (by exact (Fr.refl _ _).drew)).mono ?_; rintro e w5 ⟨rfl, rfl⟩) | (go_at_call 14; refine (HLF.out _ (by exact (Fr.refl [] wB).drew)).mono ?_; rintro e w6 ⟨rfl, h6⟩; have H6 := Lib.hid (Fr.trans (by exact (Fr.refl [] wB).drew) h6 (by simp)); have z1 := H6.out.cell HX1.out (by simp); have z2 := H6.out.cell HX2.out (by simp); clear h6))
        all_goals go_wp2
        all_goals go_roundw
        case rel => exact ⟨j + 1, S', _, _, _, _, by go_num, by omega, by omega, Going.keep HB.out H6.out, HX'.out⟩
        case measure => simp [intOf]; omega
    · have HF := Lib.hid hG.own.2.1
      clear hG hX
      by_cases hlt : j < len1
      all_goals first
        | have ht1 : decide (j < len1) = true := by simpa using hlt
          have ht2 : decide ((j : Int) < 80) = false := by simp; omega
        | have ht1 : decide (j < len1) = false := by simpa using hlt
      all_goals
        go_wp2
        go_ret
        exact ⟨rfl, HF.out.below (Nat.le_refl _) (by simp)⟩

set_option maxRecDepth 100000 in
theorem walk (n : Int) (a1 : Option Addr) (len1 cap1 : Nat) (w : World) (wn : (Lit.int .i64 n).wf = true) (w1 : EDeeds w a1 len1 cap1) :
    Calls Try.prog 3 #[.int .i64 n, .slice a1 len1 cap1] w fun e w' => e = .returned (.bool true) ∧ Below w.heap.size w w' := by
  by_cases h1 : 1 ≤ n ∧ n ≤ 8
  · obtain ⟨m, rfl⟩ := Int.eq_ofNat_of_zero_le (show 0 ≤ n by omega)
    exact play m a1 len1 cap1 w w1 (by omega) (by omega)
  · have HN := Lib.hid (fun W => epoch_new_no W n (by omega))
    clear wn w1
    by_cases h2 : n < 1
    all_goals first
      | have t1 : decide (n < 1) = true := by simpa using h2
        clear h1 h2
      | have t1 : decide (n < 1) = false := by simpa using h2
        have t2 : decide (8 < n) = true := by simp; omega
        clear h1 h2
    all_goals
      go_enter Try.func3, Try.ntmps3
      go_wp2_with (first | (go_at_call 9; refine (epoch_awake _).mono ?_; rintro e w1 ⟨rfl, h1⟩; have HA := Lib.hid h1; clear h1) | (go_at_call 10; refine (HN.out _).mono ?_; rintro e w2 ⟨rfl, rfl⟩))
      go_ret
      exact ⟨rfl, HA.out.below (Nat.le_refl _) (by simp)⟩

set_option maxRecDepth 100000 in
theorem contract (H : Type) (enc : TypeId × Value → H) (W : World) (base : Nat) (args : Array Value) (ds gs : List (DataW H)) (before : List MemPlace)
    (hval0 : ∀ (j : Nat) t v, Try.f3.params[j]? = some t → args[j]? = some v → Value.okWide Try.prog W .any base t v)
    (hW : DataW.Whole enc Try.prog Try.f3.params.toList Rows.epochPlaysSpec.vars false W args.toList ds gs before) :
    Calls Try.prog 3 args W fun e W' => ∃ v, e = .returned v ∧ Rows.epochPlaysSpec.post enc Try.prog Try.f3 false true false false W args v W' := by
  have hval : ∀ (j : Nat) t v, Try.f3.params[j]? = some t → args[j]? = some v → Value.okWide Try.prog W .any base t v := hval0
  have hW' := hW
  obtain ⟨p, q, hA0, hV, rfl, hfz, hnd⟩ := hW
  have hA : DataW.TrodAll enc Try.prog W 0 (fun _ => true) true Try.f3.params.toList args.toList ds p := hA0
  rw [Try.params3] at hA hval
  obtain ⟨v0, vs0, d0, ds0, p0, q0, hargs, rfl, rfl, h0, r0⟩ := trodAll_cons hA
  obtain ⟨v1, vs1, d1, ds1, p1, q1, rfl, rfl, rfl, h1, r1⟩ := trodAll_cons r0
  obtain ⟨rfl, rfl, rfl⟩ := trodAll_nil r1
  obtain rfl : args = #[v0, v1] := by cases args; simp_all
  obtain ⟨rfl, rfl⟩ := trodVars_none hV
  have k0 := h0
  have lt0 : ∀ x ∈ p0, x.block < W.heap.size := by obtain ⟨m, hm⟩ := k0; exact DataW.trod_lt m _ _ _ hm
  have k1 := h1
  have lt1 : ∀ x ∈ p1, x.block < W.heap.size := by obtain ⟨m, hm⟩ := k1; exact DataW.trod_lt m _ _ _ hm
  obtain ⟨n, rfl, _, _, wn⟩ := open_int Try.underlying3 (hval 0 3 v0 rfl rfl) h0
  obtain ⟨a1, len1, cap1, rfl, w1⟩ := open_edeeds (hval 1 22 v1 rfl rfl) h1
  clear hA0 hval0 hval
  refine (walk n a1 len1 cap1 W wn w1).mono fun e W' ⟨he, bel⟩ => ?_
  subst he
  exact ⟨_, rfl, _, _, _, [], _, [], hW', trodAll_mk1 (shut_bool Try.underlying4 _), (trodAll_cons_mk (Below.trod laid_prog (by kernel_rfl) (of_decide_eq_true (by kernel_rfl)) k0 bel lt0) (trodAll_cons_mk (Below.trod laid_prog (by kernel_rfl) (of_decide_eq_true (by kernel_rfl)) k1 bel lt1) trodAll_mk0)), rfl, bel.frame _, fun h => by cases h⟩

set_option maxRecDepth 100000 in
theorem lifted (os : Os) (started : os.Started) (H : Type) (enc : TypeId × Value → H) :
    ReturnsInHanded {} Try.checked os 3 .any (Rows.epochPlaysSpec.pre6 enc Try.prog Try.f3 Rows.epochPlaysRow.domain false) (Rows.epochPlaysSpec.post enc Try.prog Try.f3 false true false false) := by
  refine returnsInHanded_of_change (C := Try.checked) own_prog started (by kernel_rfl) Try.func3
    (ChangeSpec.witness6 (enc := enc) (C := Try.checked) false ⟨#[], #[.int .i64 0, .slice none 0 0], []⟩ 8 (by kernel_rfl) (by kernel_rfl) (by kernel_rfl) (by kernel_rfl)) ?_
  intro W base args ds gs before hval hW _ _
  exact contract H enc W base args ds gs before hval hW

theorem proved : Rows.EpochPlaysSaid :=
  OpenClaim.holds_of_wide 3 Try.f3 rfl rfl rfl rfl rfl rfl rfl ⟨rfl, rfl, rfl, rfl, rfl⟩ rfl rfl rfl rfl rfl (by kernel_rfl) Try.func3 (by kernel_rfl)
    (of_decide_eq_true (by kernel_rfl)) (by unfold Func.isWrapper; first | (rw [if_pos (by decide +kernel)]; kernel_rfl) | (rw [if_neg (by decide +kernel)]; exact ⟨rfl, rfl⟩))
    (fun os started H enc _ => lifted os started H enc)

end Go.Proofs.Ytphniphlflijeaa.lawEpochPlays
