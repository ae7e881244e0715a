/- With nobody inside all is free behind two steps of the epoch, in its turn: for every list of deeds and every list of words. No condition. -/
import Derived.Test.YtphniphlflijeaaEpochHist
namespace Go.Proofs.Ytphniphlflijeaa.lawEpochEnds
open Go.ChangeShapes Go.WideShapes Go.ChangeAt Go.RowKit Go.Deep
set_option linter.unusedVariables false
set_option linter.unusedSimpArgs false

/-- the first n threads are not inside -/
def OutTo (A : PA) (n : Nat) : Prop := ∀ i, i < n → ∀ v, A.th[i]? = some v → v.1 = false
theorem OutTo.exit {A : PA} {n : Nat} (h : OutTo A n) (hn : n < A.th.length) : OutTo (A.exit n) (n + 1) := by
  intro i hi v hv
  unfold PA.exit at hv
  rw [th_has hn, if_pos rfl] at hv
  by_cases hin : i = n
  · subst hin
    cases hs : A.inside i with
    | true =>
      rw [hs, if_pos rfl] at hv
      simp [hn] at hv
      rw [← hv]
    | false =>
      rw [hs, if_neg (by simp)] at hv
      simpa [PA.inside, List.getD_eq_getElem?_getD, hv] using hs
  · have hv' : A.th[i]? = some v := by
      split at hv
      · have hne : ¬ ((n : Int).toNat = i) := by omega
        rw [List.getElem?_set, if_neg hne] at hv; exact hv
      · exact hv
    exact h i (by omega) v hv'
theorem exit_len (A : PA) (t : Int) : (A.exit t).th.length = A.th.length := by
  unfold PA.exit
  repeat' split
  all_goals simp
theorem exit_same (A : PA) (t : Int) : (A.exit t).ep = A.ep ∧ (A.exit t).row = A.row := by
  unfold PA.exit
  repeat' split
  all_goals exact ⟨rfl, rfl⟩
theorem OutTo.ready {A : PA} (h : OutTo A A.th.length) : A.ready = true := by
  unfold PA.ready
  rw [List.all_eq_true]
  intro v hv
  obtain ⟨i, hi, rfl⟩ := List.mem_iff_getElem.1 hv
  rw [h i hi _ (List.getElem?_eq_getElem hi)]; rfl
theorem adv {A : PA} (h : A.ready = true) : A.advance = { A with ep := A.ep + 1 } := by unfold PA.advance; rw [h, if_pos rfl]
/-- behind the exits: two steps, and nothing is left -/
theorem ends1 {A : PA} {N : Int} (h : OutTo A A.th.length) (hA : OkA A N) : A.advance.ready = true ∧ A.advance.advance.free.row = [] ∧ OutTo A.advance.advance.free A.advance.advance.free.th.length := by
  have h1 := adv h.ready
  have h2 : A.advance.ready = true := by rw [h1]; exact OutTo.ready (A := { A with ep := A.ep + 1 }) h
  have h3 := adv h2
  refine ⟨h2, ?_, ?_⟩
  · rw [h3, h1]
    simp only [PA.free, List.filter_eq_nil_iff]
    intro x hx
    have := hA.row x hx
    simp; omega
  · rw [h3, h1]; exact h
/-- what was retired since is all that is there, of this epoch -/
def Now (A : PA) (xs : List Int) : Prop := A.row = xs.map (fun x => (x, A.ep))
theorem Now.retire {A : PA} {xs : List Int} (h : Now A xs) (x : Int) : Now (A.retire x) (xs ++ [x]) := by
  unfold Now at h ⊢
  simp [PA.retire, h]
theorem ends2 {A : PA} {xs : List Int} (h : OutTo A A.th.length) (hn : Now A xs) : A.ready = true ∧ A.advance.freed = [] ∧ A.advance.free.ready = true ∧ A.advance.free.advance.freed = xs ∧ A.advance.free.advance.free.row = [] := by
  have h1 := adv h.ready
  have h2 : A.advance.free = A.advance := by
    rw [h1]
    simp only [PA.free]
    have e : A.row.filter (fun x => !decide (x.2 + 2 ≤ A.ep + 1)) = A.row := by
      rw [List.filter_eq_self]
      intro x hx
      rw [hn] at hx
      obtain ⟨y, _, rfl⟩ := List.mem_map.1 hx
      simp <;> omega
    rw [e]
  have h3 : A.advance.ready = true := by rw [h1]; exact OutTo.ready (A := { A with ep := A.ep + 1 }) h
  have h4 := adv h3
  refine ⟨h.ready, ?_, by rw [h2]; exact h3, ?_, ?_⟩
  · rw [h1]
    simp only [PA.freed, List.map_eq_nil_iff, List.filter_eq_nil_iff]
    intro x hx
    rw [hn] at hx
    obtain ⟨y, _, rfl⟩ := List.mem_map.1 hx
    simp <;> omega
  · rw [h2, h4, h1]
    simp only [PA.freed]
    rw [hn]
    rw [List.filter_eq_self.2 (by intro x hx; obtain ⟨y, _, rfl⟩ := List.mem_map.1 hx; simp <;> omega), List.map_map]
    simp [Function.comp_def]
  · rw [h2, h4, h1]
    simp only [PA.free, List.filter_eq_nil_iff]
    intro x hx
    rw [hn] at hx
    obtain ⟨y, _, rfl⟩ := List.mem_map.1 hx
    simp <;> omega
theorem EWords.lies {w w' : World} {a : Option Addr} {len cap : Nat} {xs : List Int} (h : EWords w a len cap xs) (hf : Fr [] w w') : EWords w' a len cap xs := by
  obtain ⟨h1, h2, h3, h4⟩ := h
  refine ⟨h1, h2, h3, fun hl => ?_⟩
  obtain ⟨b, off, ha, hb, hc⟩ := h4 hl
  exact ⟨b, off, ha, Nat.lt_of_lt_of_le hb hf.size, fun i x hx => hf.cell (hc i x hx) (by simp)⟩
/-- the document's Same of a slice of one's own and one that came in -/
def SawSame (w : World) (a : Value) (a1 : Option Addr) (n c : Nat) (b : Bool) : Prop := Calls Try.prog 21 #[a, .slice a1 n c] w fun e w' => e = .returned (.bool b) ∧ Fr [] w w'
set_option maxHeartbeats 1000000 in
theorem same_in (w : World) {a : Value} {xs : List Int} {a1 : Option Addr} {cap : Nat} (ha : Lies w 33 1 a xs.length (xs.map (Value.int .u64))) (hw : EWords w a1 xs.length cap xs) : SawSame w a a1 xs.length cap true := by
  have HA := Lib.hid ha
  have HW := Lib.hid hw
  obtain ⟨sa, ac, rfl, hac0, hac⟩ := ha.form
  have hm : xs.length ≤ 9223372036854775807 := by unfold maxLen at hac; omega
  clear ha hw hac hac0
  unfold SawSame
  go_enter Try.func21, Try.ntmps21
  go_wp2_with fail
  go_loopw [5] (fun i wr => ∃ j : Nat, i = .int .i64 j ∧ j ≤ xs.length ∧ Fr [] w wr) (fun i _ => xs.length - (intOf i).toNat)
  case atStart => exact ⟨0, rfl, Nat.zero_le _, Fr.refl _ _⟩
  case round =>
    obtain ⟨j, rfl, hj, hf⟩ := hrel
    have HF := Lib.hid hf
    by_cases hlt : j < xs.length
    · have t1 : decide ((j : Int) < xs.length) = true := by simpa using hlt
      obtain ⟨x, hx⟩ : ∃ x, xs[j]? = some x := ⟨_, List.getElem?_eq_getElem hlt⟩
      obtain ⟨g, off, c, hv, hg, hc, hcells⟩ := (HA.out.keep hf (by simp)).here (by omega)
      cases hv
      obtain ⟨b, off2, rfl, _, hcells2⟩ := (EWords.lies HW.out hf).2.2.2 (by omega)
      obtain ⟨d0, _⟩ := hcells j (by omega)
      rw [List.getElem?_map, hx] at d0
      replace d0 : wr.cell? ⟨g, off + j, none⟩ = some (.int .u64 x) := d0
      have d1 := hcells2 j x hx
      clear hf hcells hcells2 hx
      go_wp2_with fail
      go_quiet (fail)
      go_wp2
      go_roundw
      case rel => exact ⟨j + 1, by go_num, by omega, by first | exact HF.out | exact HF.out.drew | exact HF.out.drewN _⟩
      case measure => simp [intOf]; omega
    · obtain rfl : j = xs.length := by omega
      have t1 : decide ((xs.length : Int) < xs.length) = false := by simp
      clear hf
      go_wp2
      go_ret
      exact ⟨rfl, HF.out⟩

set_option maxRecDepth 100000 in
set_option maxHeartbeats 6000000 in
theorem walk (a0 : Option Addr) (len0 cap0 : Nat) (a1 : Option Addr) (len1 cap1 : Nat) (xs1 : List Int) (w : World) (w0 : EDeeds w a0 len0 cap0) (w1 : EWords w a1 len1 cap1 xs1) :
    Calls Try.prog 5 #[.slice a0 len0 cap0, .slice a1 len1 cap1] w fun e w' => e = .returned (.bool true) ∧ Below w.heap.size w w' := by
  have HD0 := Lib.hid w0
  have HW1 := Lib.hid w1
  have hlen := w1.2.2.1
  subst hlen
  have hm : xs1.length ≤ 9223372036854775807 := by have := w1.1; have := w1.2.1; unfold maxLen at this; omega
  clear w0 w1
  by_cases h50 : 50 < xs1.length
  · have t0 : decide (50 < (xs1.length : Int)) = true := by simp; omega
    go_enter Try.func5, Try.ntmps5
    go_wp2_with (first | (go_at_call 9; refine (epoch_awake _).mono ?_; rintro e w1 ⟨rfl, h1⟩; have HA := Lib.hid h1; clear h1) | (go_at_call 15; refine (eran_any _ _ _ _ (HD0.out.keep HA.out)).mono ?_; rintro e w2 ⟨p, S, A, rfl, h2, hA2, hX2⟩; refine go_stop ?_))
    have h2 : Own w p S A w2 := ⟨h2.1, HA.out.trans h2.2.1 (by simp), fun k hk => Nat.le_trans HA.out.size (h2.2.2 k hk)⟩
    have HF := Lib.hid h2.2.1
    clear h2 hA2 hX2
    unfold Stop
    go_wp2
    go_ret
    exact ⟨rfl, HF.out.below (Nat.le_refl _) (by simp)⟩
  have t0 : decide (50 < (xs1.length : Int)) = false := by simp; omega
  go_enter Try.func5, Try.ntmps5
  go_wp2_with (first | (go_at_call 9; refine (epoch_awake _).mono ?_; rintro e w1 ⟨rfl, h1⟩; have HA := Lib.hid h1; clear h1) | (go_at_call 15; refine (eran_any _ _ _ _ (HD0.out.keep HA.out)).mono ?_; rintro e w2 ⟨p, S, A, rfl, h2, hA2, hX2⟩; refine go_stop ?_))
  have h2 : Own w p S A w2 := ⟨h2.1, HA.out.trans h2.2.1 (by simp), fun k hk => Nat.le_trans HA.out.size (h2.2.2 k hk)⟩
  have H2 := Lib.hid h2
  have HA2 := Lib.hid hA2
  have hfour := hX2.four
  clear h2 hA2 hX2
  unfold Stop
  go_wp2_with fail
  go_loopw [7] (fun i wr => ∃ (j : Nat) (S : List Nat) (B : PA), i = .int .i64 j ∧ j ≤ 4 ∧ Own w p S B wr ∧ OkA B 80 ∧ OutTo B j ∧ B.th.length = 4) (fun i _ => 4 - (intOf i).toNat)
  case atStart => exact ⟨0, _, _, rfl, Nat.zero_le _, H2.out, HA2.out, fun i hi => by omega, hfour⟩
  case round =>
    obtain ⟨j, S, B, rfl, hj, hO, hA, hT, hB4⟩ := hrel
    by_cases hlt : j < 4
    · have ht1 : decide ((j : Int) < 4) = true := by simp; omega
      have HE := Lib.hid (own_exit hO hA j)
      have HN := Lib.hid (show OkA (B.exit j) 80 ∧ OutTo (B.exit j) (j + 1) ∧ (B.exit j).th.length = 4 from ⟨hA.exit _, hT.exit (by omega), by rw [exit_len]; exact hB4⟩)
      clear hO hA hT
      go_wp2_with (go_at_call 19; refine HE.out.mono ?_; rintro e w3 ⟨rfl, S3, h3⟩; have H3 := Lib.hid h3; clear h3)
      go_roundw
      case rel => exact ⟨j + 1, S3, _, by go_num, by omega, H3.out, HN.out.1, HN.out.2.1, HN.out.2.2⟩
      case measure => simp [intOf]; omega
    · obtain rfl : j = 4 := by omega
      rw [← hB4] at hT
      have hr1 := hT.ready
      obtain ⟨hr2, hrow, hT2⟩ := ends1 hT hA
      have HC := Lib.hid (own_advance hO hA (by omega))
      rw [hr1] at HC
      have HA3 := Lib.hid hA.advance
      have HA4 := Lib.hid hA.advance.advance
      have HA5 := Lib.hid hA.advance.advance.free
      have HR2 := Lib.hid hr2
      have HROW := Lib.hid hrow
      have HT2 := Lib.hid hT2
      clear hO hA hT hr1 hr2 hrow hT2
      go_wp2_with (go_at_call 20; refine HC.out.mono ?_; rintro e w3 ⟨rfl, S3, h3⟩; refine go_stop ?_)
      unfold Stop
      go_wp2_with (go_at_call 20; refine (own_advance h3 HA3.out (by omega)).mono ?_; rintro e w4 ⟨rfl, S4, h4⟩; rw [HR2.out]; refine go_stop ?_)
      clear h3
      unfold Stop
      go_wp2_with (go_at_call 16; refine (own_free h4 HA4.out (by omega)).mono ?_; rintro e w5 ⟨s5, c5, rfl, _, _, h5⟩; refine go_stop ?_)
      clear h4
      obtain ⟨C0, hC0⟩ : ∃ C0, C0 = B.advance.advance.free := ⟨_, rfl⟩
      rw [← hC0] at h5 HA5 HROW HT2
      have H5 := Lib.hid h5
      clear h5 hC0
      unfold Stop
      go_wp2_with (go_at_call 14; refine (own_left H5.out HA5.out (by omega)).mono ?_; rintro e w6 ⟨rfl, hf6⟩; have HF6 := Lib.hid hf6; clear hf6; rw [HROW.out]; refine go_stop ?_)
      unfold Stop
      go_wp2_with fail
      go_loopw [10] (fun i wr => ∃ (j : Nat) (S : List Nat) (C : PA), i = .int .i64 j ∧ j ≤ xs1.length ∧ Own w p S C wr ∧ OkA C (82 + (j : Int)) ∧ OutTo C C.th.length ∧ Now C (xs1.take j)) (fun i _ => xs1.length - (intOf i).toNat)
      case atStart => exact ⟨0, _, _, rfl, Nat.zero_le _, H5.out.keep HF6.out, HA5.out.mono (by omega), HT2.out, by unfold Now; rw [HROW.out]; simp⟩
      case round =>
        obtain ⟨j, S, C, rfl, hj, hO, hA, hT, hN⟩ := hrel
        by_cases hlt : j < xs1.length
        · have ht1 : decide (j < xs1.length) = true := by simpa using hlt
          obtain ⟨x, hx⟩ : ∃ x, xs1[j]? = some x := ⟨_, List.getElem?_eq_getElem hlt⟩
          obtain ⟨b, off, rfl, _, hcells⟩ := (EWords.lies HW1.out hO.2.1).2.2.2 (by omega)
          have c0 := hcells j x hx
          have HR := Lib.hid (own_retire hO hA (by omega) x)
          have HN := Lib.hid (show OkA (C.retire x) (82 + ((j + 1 : Nat) : Int)) ∧ OutTo (C.retire x) (C.retire x).th.length ∧ Now (C.retire x) (xs1.take (j + 1)) from ⟨(hA.retire x).mono (by omega), hT, by rw [List.take_add_one, hx]; exact hN.retire x⟩)
          clear hO hA hT hN hcells hx
          go_wp2_with (go_at_call 18; refine HR.out.mono ?_; rintro e w7 ⟨rfl, S7, h7⟩; have H7 := Lib.hid h7; clear h7)
          go_roundw
          case rel => exact ⟨j + 1, S7, _, by go_num, by omega, H7.out, HN.out.1, HN.out.2.1, HN.out.2.2⟩
          case measure => simp [intOf]; omega
        · obtain rfl : j = xs1.length := by omega
          have ht1 : decide (xs1.length < xs1.length) = false := by simp
          rw [List.take_length] at hN
          obtain ⟨g1, g2, g3, g4, g5⟩ := ends2 hT hN
          have HG2 := Lib.hid g2
          have HG3 := Lib.hid g3
          have HG4 := Lib.hid g4
          have HG5 := Lib.hid g5
          have HC1 := Lib.hid (own_advance hO hA (by omega))
          rw [g1] at HC1
          have HB1 := Lib.hid hA.advance
          have HB2 := Lib.hid hA.advance.free
          have HB3 := Lib.hid hA.advance.free.advance
          have HB4 := Lib.hid hA.advance.free.advance.free
          clear hO hA hT hN g1 g2 g3 g4 g5
          go_wp2_with (go_at_call 20; refine HC1.out.mono ?_; rintro e w7 ⟨rfl, S7, h7⟩; refine go_stop ?_)
          unfold Stop
          go_wp2_with (go_at_call 16; refine (own_free_none h7 HB1.out (by omega) ⟨rfl, HG2.out⟩).mono ?_; rintro e w8 ⟨s8, c8, rfl, h8⟩; refine go_stop ?_)
          clear h7
          unfold Stop
          go_wp2_with (go_at_call 20; refine (own_advance h8 HB2.out (by omega)).mono ?_; rintro e w9 ⟨rfl, S9, h9⟩; rw [HG3.out]; refine go_stop ?_)
          clear h8
          have H9 := Lib.hid h9
          clear h9
          unfold Stop
          go_wp2_with (go_at_call 16; refine (own_free H9.out HB3.out (by omega)).mono ?_; rintro e w10 ⟨s10, c10, rfl, hl10, _, h10⟩; refine go_stop ?_)
          rw [HG4.out] at hl10
          have H10 := Lib.hid h10
          have HSM := Lib.hid (same_in w10 hl10 (EWords.lies HW1.out h10.2.1))
          clear hl10 h10
          rw [HG4.out]
          unfold SawSame at HSM
          unfold Stop
          go_wp2_with (first | (go_at_call 21; refine HSM.out.mono ?_; rintro e w11 ⟨rfl, hf11⟩; have HF11 := Lib.hid hf11; clear hf11) | (go_at_call 14; refine (own_left (H10.out.keep HF11.out) HB4.out (by omega)).mono ?_; rintro e w12 ⟨rfl, hf12⟩; have HF12 := Lib.hid hf12; clear hf12; rw [HG5.out]))
          go_ret
          exact ⟨rfl, ((H10.out.2.1.trans HF11.out (by simp)).trans HF12.out (by simp)).below (Nat.le_refl _) (by simp)⟩

set_option maxRecDepth 100000 in
theorem contract (H : Type) (enc : TypeId × Value → H) (W : World) (base : Nat) (args : Array Value) (ds gs : List (DataW H)) (before : List MemPlace)
    (hval0 : ∀ (j : Nat) t v, Try.f5.params[j]? = some t → args[j]? = some v → Value.okWide Try.prog W .any base t v)
    (hW : DataW.Whole enc Try.prog Try.f5.params.toList Rows.epochEndsSpec.vars false W args.toList ds gs before) :
    Calls Try.prog 5 args W fun e W' => ∃ v, e = .returned v ∧ Rows.epochEndsSpec.post enc Try.prog Try.f5 false true false false W args v W' := by
  have hval : ∀ (j : Nat) t v, Try.f5.params[j]? = some t → args[j]? = some v → Value.okWide Try.prog W .any base t v := hval0
  have hW' := hW
  obtain ⟨p, q, hA0, hV, rfl, hfz, hnd⟩ := hW
  have hA : DataW.TrodAll enc Try.prog W 0 (fun _ => true) true Try.f5.params.toList args.toList ds p := hA0
  rw [Try.params5] at hA hval
  obtain ⟨v0, vs0, d0, ds0, p0, q0, hargs, rfl, rfl, h0, r0⟩ := trodAll_cons hA
  obtain ⟨v1, vs1, d1, ds1, p1, q1, rfl, rfl, rfl, h1, r1⟩ := trodAll_cons r0
  obtain ⟨rfl, rfl, rfl⟩ := trodAll_nil r1
  obtain rfl : args = #[v0, v1] := by cases args; simp_all
  obtain ⟨rfl, rfl⟩ := trodVars_none hV
  have k0 := h0
  have lt0 : ∀ x ∈ p0, x.block < W.heap.size := by obtain ⟨m, hm⟩ := k0; exact DataW.trod_lt m _ _ _ hm
  have k1 := h1
  have lt1 : ∀ x ∈ p1, x.block < W.heap.size := by obtain ⟨m, hm⟩ := k1; exact DataW.trod_lt m _ _ _ hm
  obtain ⟨a0, len0, cap0, rfl, w0⟩ := open_edeeds (hval 0 22 v0 rfl rfl) h0
  obtain ⟨a1, len1, cap1, xs1, rfl, w1⟩ := open_ewords (hval 1 39 v1 rfl rfl) h1
  clear hA0 hval0 hval
  refine (walk a0 len0 cap0 a1 len1 cap1 xs1 W w0 w1).mono fun e W' ⟨he, bel⟩ => ?_
  subst he
  exact ⟨_, rfl, _, _, _, [], _, [], hW', trodAll_mk1 (shut_bool Try.underlying4 _), (trodAll_cons_mk (Below.trod laid_prog (by kernel_rfl) (of_decide_eq_true (by kernel_rfl)) k0 bel lt0) (trodAll_cons_mk (Below.trod laid_prog (by kernel_rfl) (of_decide_eq_true (by kernel_rfl)) k1 bel lt1) trodAll_mk0)), rfl, bel.frame _, fun h => by cases h⟩

set_option maxRecDepth 100000 in
theorem lifted (os : Os) (started : os.Started) (H : Type) (enc : TypeId × Value → H) :
    ReturnsInHanded {} Try.checked os 5 .any (Rows.epochEndsSpec.pre6 enc Try.prog Try.f5 Rows.epochEndsRow.domain false) (Rows.epochEndsSpec.post enc Try.prog Try.f5 false true false false) := by
  refine returnsInHanded_of_change (C := Try.checked) own_prog started (by kernel_rfl) Try.func5
    (ChangeSpec.witness6 (enc := enc) (C := Try.checked) false ⟨#[], #[.slice none 0 0, .slice none 0 0], []⟩ 8 (by kernel_rfl) (by kernel_rfl) (by kernel_rfl) (by kernel_rfl)) ?_
  intro W base args ds gs before hval hW _ _
  exact contract H enc W base args ds gs before hval hW

theorem proved : Rows.EpochEndsSaid :=
  OpenClaim.holds_of_wide 5 Try.f5 rfl rfl rfl rfl rfl rfl rfl ⟨rfl, rfl, rfl, rfl, rfl⟩ rfl rfl rfl rfl rfl (by kernel_rfl) Try.func5 (by kernel_rfl)
    (of_decide_eq_true (by kernel_rfl)) (by unfold Func.isWrapper; first | (rw [if_pos (by decide +kernel)]; kernel_rfl) | (rw [if_neg (by decide +kernel)]; exact ⟨rfl, rfl⟩))
    (fun os started H enc _ => lifted os started H enc)

end Go.Proofs.Ytphniphlflijeaa.lawEpochEnds
