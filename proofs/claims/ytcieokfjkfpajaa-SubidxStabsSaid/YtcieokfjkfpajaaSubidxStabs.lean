/- A watch that is there is stabbed by a key just if its range has it, and it wants that revision; each once, rising: for every list of deeds, every key and revision. No condition. -/
import Derived.Test.YtcieokfjkfpajaaSiAwake
import Derived.Test.YtcieokfjkfpajaaSiLaw
import Derived.Deep.DeepCutAuto
namespace Go.Proofs.Ytcieokfjkfpajaa.lawSubidxStabs
open Go.ChangeShapes Go.WideShapes Go.ChangeAt Go.RowKit Go.Deep Go.ChangeMaps
set_option linter.unusedVariables false
set_option linter.unusedSimpArgs false

theorem stab_len (k : Bs) (rev : Int) (L : List Sb) : (stabS k rev L).length = (L.filter (Sb.want k rev)).length := by
  unfold stabS sortI
  rw [(List.mergeSort_perm _ _).length_eq, List.length_map]
theorem stab_mem {k : Bs} {rev : Int} {L : List Sb} {x : Int} : x ∈ stabS k rev L ↔ ∃ y ∈ L, Sb.want k rev y = true ∧ y.id = x := by
  unfold stabS
  rw [sortI_mem]
  simp only [List.mem_map, List.mem_filter]
  constructor
  · rintro ⟨y, ⟨h1, h2⟩, h3⟩; exact ⟨y, h1, h2, h3⟩
  · rintro ⟨y, h1, h2, h3⟩; exact ⟨y, ⟨h1, h2⟩, h3⟩
theorem stab_strict {k : Bs} {rev : Int} {L : List Sb} (h : (L.map (·.id)).Nodup) : (stabS k rev L).Pairwise (· < ·) :=
  sortI_strict (List.Nodup.sublist (List.filter_sublist.map _) h)
def hitB (k : Bs) (rev x : Int) (y : Sb) : Bool := y.id == x && (inB y.f.toList y.t.toList k && decide (y.rev < rev))
theorem any_hit {k : Bs} {rev x : Int} {L : List Sb} (h : x ∈ stabS k rev L) : L.any (hitB k rev x) = true := by
  obtain ⟨y, hy, h1, h2⟩ := stab_mem.1 h
  rw [List.any_eq_true]
  refine ⟨y, hy, ?_⟩
  unfold hitB
  unfold Sb.want at h1
  rw [h2, Bool.and_comm (inB _ _ _), h1]; simp
set_option maxRecDepth 100000 in
set_option maxHeartbeats 8000000 in
theorem walk (lv : Value) (l : List Sd) (k : ByteArray) (rev : Int) (w : World) (hl : SdIn w lv l) :
    Calls Try.prog 4 #[lv, .string k, .int .i64 rev] w fun e w' => e = .returned (.bool true) ∧ Below w.heap.size w w' := by
  obtain ⟨sl, cl, rfl, _, _⟩ := hl.1.form
  have HAW := Lib.hid fun W => si_awake W
  have HRAN := Lib.hid fun W (hW : Fr [] w W) => si_ran _ l W (hl.keep0 hW)
  have HE := Lib.hid fun (s : Sb) W => rin_any s.f s.t k W
  obtain ⟨L, hL⟩ : ∃ L, L = runL (l.take 60) := ⟨_, rfl⟩
  rw [← hL] at HRAN
  clear hL hl
  obtain ⟨O, hO⟩ : ∃ O, O = stabS k.toList rev L := ⟨_, rfl⟩
  have HLL := Lib.hid fun (W : World) p S n (h : Ix W p S n L) => h.len
  have HOL := Lib.hid (show O.length = (L.filter (Sb.want k.toList rev)).length by rw [hO]; exact stab_len _ _ _)
  have HOS := Lib.hid fun (W : World) p S n (h : Ix W p S n L) => show O.Pairwise (· < ·) by rw [hO]; exact stab_strict h.nodup
  have HOM := Lib.hid fun x (h : x ∈ O) => show L.any (hitB k.toList rev x) = true by rw [hO] at h; exact any_hit h
  have HS60 := Lib.hid fun (W : World) p S (h : Ix W p S 60 L) => ix_stab h (by omega) k rev
  rw [← hO] at HS60
  have HA60 := Lib.hid fun (W : World) p S (h : Ix W p S 60 L) => ix_all h (by omega)
  clear hO
  have HF1 := Lib.hid (Fr.refl [] w)
  go_enter Try.func4, Try.ntmps4
  go_wp2_with (go_at_call 9; refine (HAW.out _).mono ?_; rintro e w2 ⟨rfl, hf⟩; refine go_stop ?_)
  have HF2 := Lib.hid (HF1.out.trans hf (by simp))
  clear hf HAW
  unfold Stop
  go_wp2_with (go_at_call 17; refine (HRAN.out _ HF2.out).mono ?_; rintro e w3 ⟨p, S0, rfl, hx, hf, hge⟩; refine go_stop ?_)
  have HF3 := Lib.hid (HF2.out.trans hf (by simp))
  have HX3 := Lib.hid hx
  have HG3 : Hid (∀ k ∈ S0, w.heap.size ≤ k) := Lib.hid (fun k hk => Nat.le_trans HF2.out.size (hge k hk))
  clear hx hf hge HRAN
  unfold Stop
  go_wp2_with (go_at_call 12; refine (HA60.out _ _ _ HX3.out).mono ?_; rintro e w4 ⟨v4, rfl, ho, hf⟩; refine go_stop ?_)
  obtain ⟨s4, c4, hv4, _⟩ := ho.lies.form
  subst hv4
  have HAL4 := Lib.hid (OutAt.far ho Sb.clen HX3.out.all_lt)
  have HF4 := Lib.hid (HF3.out.trans hf (by simp))
  have HX4 := Lib.hid (HX3.out.keep0 hf)
  have HG4 := Lib.hid HG3.out
  clear hf ho
  unfold Stop
  go_wp2_with (go_at_call 14; refine (HS60.out _ _ _ HX4.out).mono ?_; rintro e w5 ⟨v5, rfl, ho, hf⟩; refine go_stop ?_)
  obtain ⟨s5, c5, hv5, _⟩ := ho.lies.form
  subst hv5
  have HST5 := Lib.hid (OutAt.far ho inC.len HX4.out.all_lt)
  have HO5 := Lib.hid (out_in ho)
  have HF5 := Lib.hid (HF4.out.trans hf (by simp))
  have HX5 := Lib.hid (HX4.out.keep0 hf)
  have HG5 := Lib.hid HG4.out
  have HAL5 := Lib.hid (HAL4.out.keep0 hf)
  clear hf ho
  unfold Stop
  have HAI := Lib.hid HAL5.out.lin
  have HSI := Lib.hid HO5.out
  have HFB := Lib.hid HF5.out
  have HSTR := Lib.hid (HOS.out _ _ _ _ HX5.out)
  have hll : L.length ≤ 60 := HLL.out _ _ _ _ HX5.out
  have hol0 : O.length ≤ 60 := by have := HOL.out; have := List.length_filter_le (Sb.want k.toList rev) L; omega
  generalize w5 = wb at *
  go_upto_region 7 with fail
  go_loopw [11, 12] (fun nv iv wr => ∃ (j : Nat), iv = .int .i64 j ∧ j ≤ L.length ∧ nv = .int .i64 ((L.take j).filter (Sb.want k.toList rev)).length ∧ Fr [] wb wr) (fun _ i _ => L.length - (intOf i).toNat)
  case atStart => exact ⟨0, rfl, Nat.zero_le _, rfl, Fr.refl _ _⟩
  case round =>
    obtain ⟨j, rfl, hj, rfl, hf⟩ := hrel
    have HF := Lib.hid hf
    clear hf
    by_cases h : j < L.length
    · obtain ⟨y, hy⟩ : ∃ y, L[j]? = some y := ⟨_, List.getElem?_eq_getElem h⟩
      obtain ⟨g, off, d1, e1, _, l1, k1⟩ := SbIn.here HAI.out (by omega)
      simp only [Value.slice.injEq] at e1
      obtain ⟨rfl, _, rfl⟩ := e1
      have HC := Lib.hid ((k1 j y hy).keep HF.out (by simp))
      have HTK := Lib.hid (take_snoc hy)
      have hflen : ((L.take j).filter (Sb.want k.toList rev)).length ≤ 60 := Nat.le_trans (List.length_filter_le _ _) (by rw [List.length_take]; omega)
      obtain ⟨m, hm⟩ : ∃ m, m = ((L.take j).filter (Sb.want k.toList rev)).length := ⟨_, rfl⟩
      rw [← hm] at hflen ⊢
      have HMM := Lib.hid hm
      have t1 : decide (j < L.length) = true := by simpa using h
      have q1 : IntKind.i64.wrap ((m : Int) + 1) = (m : Int) + 1 := IntWalk.i64_in _ ⟨by omega, by omega⟩
      obtain ⟨y0, y1, y2, y3⟩ := HC.out
      have HIY := Lib.hid fun W => HE.out y W
      have hwant : Sb.want k.toList rev y = (decide (y.rev < rev) && inB y.f.toList y.t.toList k.toList) := rfl
      have HW := Lib.hid hwant
      generalize inB y.f.toList y.t.toList k.toList = J at *
      clear k1 hy hm hwant
      have hrel : ∀ (B : Bool), Sb.want k.toList rev y = B → (((L.take (j + 1)).filter (Sb.want k.toList rev)).length : Int) = if B = true then (m : Int) + 1 else m := fun B hB => by
        rw [HTK.out, List.filter_append, List.length_append, ← HMM.out, List.filter_cons, hB]
        cases B <;> simp
      have HREL := Lib.hid hrel
      clear hrel
      cases J
      · go_wp2_with (go_at_call 18; refine (HIY.out _).mono ?_; rintro e w30 ⟨rfl, hf⟩; have HN := Lib.hid (HF.out.trans hf (by simp)); clear hf)
        go_roundw
        case rel => exact ⟨j + 1, by go_num, by omega, by rw [HREL.out false (by rw [HW.out]; simp)]; rfl, HN.out⟩
        case measure => simp [intOf]; omega
      · by_cases hr : y.rev < rev
        · have t2 : decide (y.rev < rev) = true := by simpa using hr
          have HR2 := Lib.hid t2
          clear hr
          go_wp2_with (go_at_call 18; refine (HIY.out _).mono ?_; rintro e w30 ⟨rfl, hf⟩; have HN := Lib.hid (HF.out.trans hf (by simp)); have z1 := hf.cell y1 (by simp); clear hf)
          go_roundw
          case rel => exact ⟨j + 1, by go_num, by omega, by rw [HREL.out true (by rw [HW.out, HR2.out]; rfl)]; rfl, HN.out⟩
          case measure => simp [intOf]; omega
        · have t2 : decide (y.rev < rev) = false := by simpa using hr
          have HR2 := Lib.hid t2
          clear hr
          go_wp2_with (go_at_call 18; refine (HIY.out _).mono ?_; rintro e w30 ⟨rfl, hf⟩; have HN := Lib.hid (HF.out.trans hf (by simp)); have z1 := hf.cell y1 (by simp); clear hf)
          go_roundw
          case rel => exact ⟨j + 1, by go_num, by omega, by rw [HREL.out false (by rw [HW.out, HR2.out]; rfl)]; rfl, HN.out⟩
          case measure => simp [intOf]; omega
    · have t1 : decide (j < L.length) = false := by simpa using h
      have hjL : L.take j = L := List.take_of_length_le (by omega)
      rw [hjL]
      obtain ⟨m0, hm0⟩ : ∃ m0, m0 = (L.filter (Sb.want k.toList rev)).length := ⟨_, rfl⟩
      rw [← hm0]
      have HM0 := Lib.hid hm0
      clear hm0 hjL
      go_wp2_with fail
      clear t1 h hj
      go_loopw [13] (fun iv wr => ∃ (j : Nat), iv = .int .i64 j ∧ j ≤ O.length ∧ Fr [] wb wr) (fun i _ => O.length - (intOf i).toNat)
      case atStart => exact ⟨0, rfl, Nat.zero_le _, HF.out⟩
      case round =>
        obtain ⟨j, rfl, hj, hf⟩ := hrel
        have HF := Lib.hid hf
        clear hf
        by_cases h : j < O.length
        · obtain ⟨x, hx⟩ : ∃ x, O[j]? = some x := ⟨_, List.getElem?_eq_getElem h⟩
          have t1 : decide (j < O.length) = true := by simpa using h
          have HXO := Lib.hid hx
          have HANY := Lib.hid (HOM.out x (List.mem_of_getElem? hx))
          clear hx
          go_wp2_with fail
          go_loopw [14, 15] (fun tv iv wq => ∃ (m : Nat), iv = .int .i64 m ∧ m ≤ L.length ∧ tv = .bool ((L.take m).any (hitB k.toList rev x)) ∧ Fr [] wb wq) (fun _ i _ => L.length - (intOf i).toNat)
          case atStart => exact ⟨0, rfl, Nat.zero_le _, rfl, HF.out⟩
          case round =>
            obtain ⟨m, rfl, hm, rfl, hf⟩ := hrel
            have HFQ := Lib.hid hf
            clear hf
            obtain ⟨T, hT⟩ : ∃ T, T = (L.take m).any (hitB k.toList rev x) := ⟨_, rfl⟩
            rw [← hT]
            have HT := Lib.hid hT
            clear hT
            obtain ⟨g2, off2, d2, e2, _, l2, k2⟩ := InIn.here HSI.out (by omega)
            simp only [Value.slice.injEq] at e2
            obtain ⟨rfl, _, rfl⟩ := e2
            have b0 := HFQ.out.cell (k2 j x HXO.out) (by simp)
            by_cases h2 : m < L.length
            · obtain ⟨y, hy⟩ : ∃ y, L[m]? = some y := ⟨_, List.getElem?_eq_getElem h2⟩
              obtain ⟨g, off, d1, e1, _, l1, k1⟩ := SbIn.here HAI.out (by omega)
              simp only [Value.slice.injEq] at e1
              obtain ⟨rfl, _, rfl⟩ := e1
              have hc := (k1 m y hy).keep HFQ.out (by simp)
              have HTK := Lib.hid (take_snoc hy)
              have t3 : decide (m < L.length) = true := by simpa using h2
              have A0 := fun n : After [] wr => n.cell hc.c0 (by simp)
              have A1 := fun n : After [] wr => n.cell hc.c1 (by simp)
              have A2 := fun n : After [] wr => n.cell hc.c2 (by simp)
              have A3 := fun n : After [] wr => n.cell hc.c3 (by simp)
              have B0 := fun n : After [] wr => n.cell b0 (by simp)
              have HIY := Lib.hid fun W => HE.out y W
              have HHIT : Hid (hitB k.toList rev x y = (y.id == x && (inB y.f.toList y.t.toList k.toList && decide (y.rev < rev)))) := Lib.hid rfl
              generalize inB y.f.toList y.t.toList k.toList = J at *
              clear k1 k2 hy hc b0
              have HREL : Hid ((L.take (m + 1)).any (hitB k.toList rev x) = (T || hitB k.toList rev x y)) := Lib.hid (by rw [HTK.out, List.any_append, ← HT.out]; simp)
              cases T
              case' false =>
                cases hid : (y.id == x)
                case' true => cases J
              all_goals
                go_upto_region 18 with fail
                refine wp_region_after [] (by kernel_rfl) (by kernel_rfl) ?_
                repeat (go_big_quiet_step ((go_at_call 18; exact After.quiet (HIY.out _))))
                refine wpQuiet_nil ?_
                rintro _ ⟨nq, rfl⟩
                have HN := Lib.hid (HFQ.out.trans nq.fr (by simp))
                clear A0 A1 A2 A3 B0
                go_wp2_with fail
                go_roundw
                case rel =>
                  refine ⟨m + 1, by go_num, by omega, ?_, HN.out⟩
                  rw [HREL.out, HHIT.out]
                  simp [*]
                case measure => simp [intOf]; omega
            · have t3 : decide (m < L.length) = false := by simpa using h2
              have hmL : L.take m = L := List.take_of_length_le (by omega)
              have hTt : T = true := by rw [HT.out, hmL]; exact HANY.out
              subst hTt
              clear hmL
              by_cases hj0 : j = 0
              · subst hj0
                have B0 := fun n : After [] wr => n.cell b0 (by simp)
                clear k2 b0
                go_upto_region 19 with fail
                refine wp_region_after [] (by kernel_rfl) (by kernel_rfl) ?_
                repeat (go_big_quiet_step (fail))
                refine wpQuiet_nil ?_
                rintro _ ⟨nq, rfl⟩
                have HN := Lib.hid (HFQ.out.trans nq.fr (by simp))
                clear B0
                go_wp2_with fail
                go_roundw
                case rel => exact ⟨1, by go_num, by omega, HN.out⟩
                case measure => simp [intOf]; omega
              · obtain ⟨i, rfl⟩ : ∃ i, j = i + 1 := ⟨j - 1, by omega⟩
                obtain ⟨x2, hx2⟩ : ∃ x2, O[i]? = some x2 := ⟨_, List.getElem?_eq_getElem (by omega)⟩
                have c0 := HFQ.out.cell (k2 i x2 hx2) (by simp)
                have hlt : x2 < x := by
                  have h8 := List.pairwise_iff_getElem.1 HSTR.out i (i + 1) (by omega) h (by omega)
                  have h9 := HXO.out
                  rw [List.getElem?_eq_getElem h] at h9
                  rw [List.getElem?_eq_getElem (by omega)] at hx2
                  cases h9; cases hx2; exact h8
                have t4 : decide (x ≤ x2) = false := by simp; omega
                have t5 : decide ((0 : Int) < ((i + 1 : Nat) : Int)) = true := by simp <;> omega
                have t6 : decide (0 < i + 1) = true := by simp
                have q1 : IntKind.i64.wrap (((i + 1 : Nat) : Int) - 1) = (i : Int) := by rw [IntWalk.i64_in _ ⟨by omega, by omega⟩]; try omega
                have B0 := fun n : After [] wr => n.cell b0 (by simp)
                have C0 := fun n : After [] wr => n.cell c0 (by simp)
                clear k2 b0 c0 hx2 hlt
                go_upto_region 19 with fail
                refine wp_region_after [] (by kernel_rfl) (by kernel_rfl) ?_
                repeat (go_big_quiet_step (fail))
                refine wpQuiet_nil ?_
                rintro _ ⟨nq, rfl⟩
                have HN := Lib.hid (HFQ.out.trans nq.fr (by simp))
                clear B0 C0
                go_wp2_with fail
                go_roundw
                case rel => exact ⟨i + 1 + 1, by go_num, by omega, HN.out⟩
                case measure => simp [intOf]; omega
        · have t1 : decide (j < O.length) = false := by simpa using h
          have hom : O.length = m0 := by rw [HOL.out, HM0.out]
          clear HM0
          subst hom
          go_wp2_with fail
          go_ret
          exact ⟨rfl, (HFB.out.trans HF.out (by simp)).below (Nat.le_refl _) (by simp)⟩

set_option maxRecDepth 100000 in
theorem contract (H : Type) (enc : TypeId × Value → H) (W : World) (base : Nat) (args : Array Value) (ds gs : List (DataW H)) (before : List MemPlace)
    (hval0 : ∀ (j : Nat) t v, Try.f4.params[j]? = some t → args[j]? = some v → Value.okWide Try.prog W .any base t v)
    (hW : DataW.Whole enc Try.prog Try.f4.params.toList Rows.subidxStabsSpec.vars false W args.toList ds gs before) :
    Calls Try.prog 4 args W fun e W' => ∃ v, e = .returned v ∧ Rows.subidxStabsSpec.post enc Try.prog Try.f4 false true false false W args v W' := by
  have hval : ∀ (j : Nat) t v, Try.f4.params[j]? = some t → args[j]? = some v → Value.okWide Try.prog W .any base t v := hval0
  have hW' := hW
  obtain ⟨p, q, hA0, hV, rfl, hfz, hnd⟩ := hW
  have hA : DataW.TrodAll enc Try.prog W 0 (fun _ => true) true Try.f4.params.toList args.toList ds p := hA0
  rw [Try.params4] at hA hval
  obtain ⟨v0, vs0, d0, ds0, p0, q0, hargs, rfl, rfl, h0, r0⟩ := trodAll_cons hA
  obtain ⟨v1, vs1, d1, ds1, p1, q1, rfl, rfl, rfl, h1, r1⟩ := trodAll_cons r0
  obtain ⟨v2, vs2, d2, ds2, p2, q2, rfl, rfl, rfl, h2, r2⟩ := trodAll_cons r1
  obtain ⟨rfl, rfl, rfl⟩ := trodAll_nil r2
  obtain rfl : args = #[v0, v1, v2] := by cases args; simp_all
  obtain ⟨rfl, rfl⟩ := trodVars_none hV
  have k0 := h0
  have lt0 : ∀ x ∈ p0, x.block < W.heap.size := by obtain ⟨m, hm⟩ := k0; exact DataW.trod_lt m _ _ _ hm
  have k1 := h1
  have lt1 : ∀ x ∈ p1, x.block < W.heap.size := by obtain ⟨m, hm⟩ := k1; exact DataW.trod_lt m _ _ _ hm
  have k2 := h2
  have lt2 : ∀ x ∈ p2, x.block < W.heap.size := by obtain ⟨m, hm⟩ := k2; exact DataW.trod_lt m _ _ _ hm
  obtain ⟨l, hl⟩ := open_sdeeds (hval 0 22 v0 rfl rfl) h0
  obtain ⟨k, rfl, rfl, _, wk⟩ := open_string Try.underlying9 (hval 1 9 v1 rfl rfl) h1
  obtain ⟨rev, rfl, _, _, wrev⟩ := open_int Try.underlying3 (hval 2 3 v2 rfl rfl) h2
  clear hA0 hval0 hval
  refine (walk v0 l k rev W hl).mono fun e W' ⟨he, bel⟩ => ?_
  subst he
  exact ⟨_, rfl, _, _, _, [], _, [], hW', trodAll_mk1 (shut_bool Try.underlying4 _), (trodAll_cons_mk (Below.trod laid_prog (by kernel_rfl) (of_decide_eq_true (by kernel_rfl)) k0 bel lt0) (trodAll_cons_mk (Below.trod laid_prog (by kernel_rfl) (of_decide_eq_true (by kernel_rfl)) k1 bel lt1) (trodAll_cons_mk (Below.trod laid_prog (by kernel_rfl) (of_decide_eq_true (by kernel_rfl)) k2 bel lt2) trodAll_mk0))), rfl, bel.frame _, fun h => by cases h⟩

set_option maxRecDepth 100000 in
theorem lifted (os : Os) (started : os.Started) (H : Type) (enc : TypeId × Value → H) :
    ReturnsInHanded {} Try.checked os 4 .any (Rows.subidxStabsSpec.pre6 enc Try.prog Try.f4 Rows.subidxStabsRow.domain false) (Rows.subidxStabsSpec.post enc Try.prog Try.f4 false true false false) := by
  refine returnsInHanded_of_change (C := Try.checked) own_prog started (by kernel_rfl) Try.func4
    (ChangeSpec.witness6 (enc := enc) (C := Try.checked) false ⟨#[], #[.slice none 0 0, .string ⟨#[]⟩, .int .i64 0], []⟩ 8 (by kernel_rfl) (by kernel_rfl) (by kernel_rfl) (by kernel_rfl)) ?_
  intro W base args ds gs before hval hW _ _
  exact contract H enc W base args ds gs before hval hW

theorem proved : Rows.SubidxStabsSaid :=
  OpenClaim.holds_of_wide 4 Try.f4 rfl rfl rfl rfl rfl rfl rfl ⟨rfl, rfl, rfl, rfl, rfl⟩ rfl rfl rfl rfl rfl (by kernel_rfl) Try.func4 (by kernel_rfl)
    (of_decide_eq_true (by kernel_rfl)) (by unfold Func.isWrapper; first | (rw [if_pos (by decide +kernel)]; kernel_rfl) | (rw [if_neg (by decide +kernel)]; exact ⟨rfl, rfl⟩))
    (fun os started H enc _ => lifted os started H enc)

end Go.Proofs.Ytcieokfjkfpajaa.lawSubidxStabs
