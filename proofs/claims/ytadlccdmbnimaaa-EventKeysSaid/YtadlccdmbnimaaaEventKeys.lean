/- A key that no event has stays as it is; one whose last event puts it has just that; one whose last event deletes it isn't there: for every two lists and every key. No condition. -/
import Derived.Test.YtadlccdmbnimaaaEvLaw2
import Derived.Test.YtadlccdmbnimaaaEvCmp
namespace Go.Proofs.Ytadlccdmbnimaaa.lawEventKeys
open Go.ChangeShapes Go.WideShapes Go.ChangeAt Go.RowKit Go.Deep Go.ChangeMaps
set_option linter.unusedVariables false
set_option linter.unusedSimpArgs false

theorem set3_block {w : World} {p : Nat} {c0 c1 c2 : Value} {t : TypeId} (h : w.heap[p]? = some (.cells #[c0, c1, c2] t (0, 0))) (u0 u1 u2 : Value) : (((w.setCell ⟨p, 0, none⟩ u0).setCell ⟨p, 1, none⟩ u1).setCell ⟨p, 2, none⟩ u2).heap[p]? = some (.cells #[u0, u1, u2] t (0, 0)) :=
  set_block (set_block (set_block h 0 u0) 1 u1) 2 u2
theorem lastOf_snoc (k : ByteArray) (e : Ev) : ∀ l : List Ev, lastOf k (l ++ [e]) = if e.key = k then some e else lastOf k l
  | [] => rfl
  | a :: r => by
    rw [List.cons_append, lastOf_cons, lastOf_snoc k e r, lastOf_cons]
    by_cases h : e.key = k
    · simp [h]
    · simp [h]
theorem curOf_snoc (k : ByteArray) (m : List Kv) {l : List Ev} {i : Nat} {e : Ev} (he : l[i]? = some e) : curOf k m (l.take (i + 1)) = if e.key = k then (if e.del then none else some e.kv) else curOf k m (l.take i) := by
  rw [take_snoc he]
  unfold curOf
  rw [lastOf_snoc]
  by_cases h : e.key = k
  · simp only [h, if_true]
  · simp only [h, if_false]
theorem cur_start {k : ByteArray} {m : List Kv} {c : Bool} {x : Kv} (hm : Srt Kv.key m) (h : (c = true → x ∈ m ∧ x.key = k) ∧ (c = false → ∀ y ∈ m, y.key ≠ k)) : (c = true → curOf k m [] = some x) ∧ (c = false → curOf k m [] = none) := by
  unfold curOf
  simp only [lastOf]
  constructor
  · intro hc
    obtain ⟨h1, h2⟩ := h.1 hc
    cases hf : m.find? (fun y => decide (y.key = k)) with
    | none => rw [List.find?_eq_none] at hf; have := hf x h1; simp [h2] at this
    | some y =>
      have h3 := List.find?_some hf
      have h4 := List.mem_of_find?_eq_some hf
      rw [srt_one hm y h4 x h1 (by rw [h2]; simpa using h3)]
  · intro hc
    rw [List.find?_eq_none]
    intro y hy
    simpa using h.2 hc y hy
set_option maxRecDepth 100000 in
set_option maxHeartbeats 4000000 in
theorem walk (mv lv : Value) (m : List Kv) (l : List Ev) (k : ByteArray) (w : World) (hm : KvIn w mv m) (hl : EvIn w lv l) (wk : k.size ≤ maxLen) (zk : k.size ≤ 140737488355328) :
    Calls Try.prog 8 #[mv, lv, .string k] w fun e w' => e = .returned (.bool true) ∧ Below w.heap.size w w' := by
  have HM := Lib.hid hm
  have HL := Lib.hid hl
  obtain ⟨s1, c1, rfl, _, _⟩ := hm.form
  obtain ⟨s2, c2, rfl, _, _⟩ := hl.form
  clear hm hl
  by_cases h1 : l.length ≤ 60
  · by_cases h2 : m.length ≤ 60
    · cases h3 : mapB m
      all_goals
        have HB := Lib.hid h3
        clear h3
        have t2 : decide ((60 : Int) < (m.length : Int)) = false := by simp; omega
        go_enter Try.func8, Try.ntmps8
        go_wp2_with (first
          | (go_at_call 9; refine (event_awake _).mono ?_; rintro e w1 ⟨rfl, h1⟩; have HF := Lib.hid h1; replace HM := Lib.hid (LIn.keep0 HM.out HF.out); replace HL := Lib.hid (LIn.keep0 HL.out HF.out); clear h1)
          | (go_at_call 10; refine (few_any _ _ _ HL.out).mono ?_; rintro e wn ⟨rfl, rfl⟩)
          | (go_at_call 18; refine (rmap_any _ _ _ HM.out).mono ?_; rintro e wn ⟨rfl, h2⟩; rw [HB.out]; have ha := h2; replace HM := Lib.hid (LIn.keep0 HM.out ha); replace HL := Lib.hid (LIn.keep0 HL.out ha); replace HF := Lib.hid (HF.out.trans ha (by simp)); clear h2 ha)
          )
      · go_ret
        exact ⟨rfl, HF.out.below (Nat.le_refl _) (by simp)⟩
      · have SRT := Lib.hid (mapB_srt.1 HB.out)
        have BM : Hid (m.length ≤ 60 ∧ l.length ≤ 60) := Lib.hid ⟨h2, h1⟩
        have BF : Hid ((foldK m l).length ≤ 120) := Lib.hid (by have := foldK_len l m; omega)
        have z1 : (⟨#[]⟩ : ByteArray).size = 0 := rfl
        go_wp2_with fail
        obtain ⟨wq, hwq⟩ : ∃ wq, wq = wn := ⟨_, rfl⟩
        have hb8 : wq.heap.size = wn.heap.size := by rw [hwq]
        go_loopw [9, 10] (fun v i wr => ∃ (j : Nat) (c : Bool) (x : Kv), v = .bool c ∧ i = .int .i64 j ∧ j ≤ m.length ∧ wr.heap[wn.heap.size]? = some (.cells #[.string x.key, .string x.val, .int .i64 x.rev] 44 (0, 0)) ∧ Fr [] wn wr ∧ (c = true → x ∈ m.take j ∧ x.key = k) ∧ (c = false → ∀ y ∈ m.take j, y.key ≠ k)) (fun _ i _ => m.length - (intOf i).toNat)
        case atStart => exact ⟨0, false, ⟨⟨#[]⟩, ⟨#[]⟩, 0, by decide⟩, rfl, rfl, Nat.zero_le _, new_block wn _, (Fr.refl [] _).alloc _, by simp, by simp⟩
        case round =>
          obtain ⟨j, c, x, rfl, rfl, hj, hb, hf, hc1, hc2⟩ := hrel
          have HBK := Lib.hid hb
          have HF2 := Lib.hid hf
          have HC := Lib.hid (And.intro hc1 hc2)
          clear hb hf hc1 hc2
          by_cases h : j < m.length
          · obtain ⟨y, hy⟩ : ∃ y, m[j]? = some y := ⟨_, List.getElem?_eq_getElem h⟩
            obtain ⟨g1, o1, d1, e1, hg1, _, k1⟩ := KvIn.here (LIn.keep0 HM.out HF2.out) (by omega)
            cases e1
            obtain ⟨p0, p1, p2⟩ := k1 j y hy
            obtain ⟨g9, o9, d9, e9, hg9, _, _⟩ := KvIn.here HM.out (by omega)
            cases e9
            have n1 : ¬ g1 = wn.heap.size := by omega
            have n2 : ¬ wn.heap.size = g1 := by omega
            obtain ⟨b0, b1, b2, bf⟩ := cells3 HBK.out
            have bf0 := bf 0
            have bf1 := bf 1
            have bf2 := bf 2
            have HST := Lib.hid (take_snoc hy)
            have t1 : decide (j < m.length) = true := by simpa using h
            clear hy k1 bf
            by_cases hk : y.key = k
            · have hk2 : y.key.toList = k.toList := by rw [hk]
              have HK := Lib.hid hk
              clear hk
              go_wp2_with fail
              go_roundw
              case rel =>
                refine ⟨j + 1, true, y, rfl, by go_num, by omega, set3_block HBK.out _ _ _, HF2.out.set3 (Nat.le_refl _) _ _ _, fun _ => ⟨by rw [HST.out]; simp, HK.out⟩, by simp⟩
              case measure => simp [intOf]; omega
            · have hk2 : ¬ y.key.toList = k.toList := fun e => hk (bs_inj e)
              have hk3 : (y.key.toList == k.toList) = false := by simpa using hk2
              have HK := Lib.hid hk
              go_wp2_with fail
              go_roundw
              case rel =>
                refine ⟨j + 1, c, x, rfl, by go_num, by omega, HBK.out, HF2.out, fun hc => ?_, fun hc z hz => ?_⟩
                · rw [HST.out]; exact ⟨List.mem_append_left _ (HC.out.1 hc).1, (HC.out.1 hc).2⟩
                · rw [HST.out] at hz
                  rcases List.mem_append.1 hz with hz | hz
                  · exact HC.out.2 hc z hz
                  · simp only [List.mem_singleton] at hz; subst hz; exact HK.out
              case measure => simp [intOf]; omega
          · have t1 : decide (j < m.length) = false := by simpa using h
            have HC0 : Hid ((c = true → curOf k m [] = some x) ∧ (c = false → curOf k m [] = none)) := Lib.hid (cur_start SRT.out (by have := HC.out; rwa [List.take_of_length_le (by omega)] at this))
            clear HC
            go_wp2_with fail
            go_loopw [9, 11] (fun v i wr => ∃ (j : Nat) (c : Bool) (x : Kv), v = .bool c ∧ i = .int .i64 j ∧ j ≤ l.length ∧ wr.heap[wn.heap.size]? = some (.cells #[.string x.key, .string x.val, .int .i64 x.rev] 44 (0, 0)) ∧ Fr [] wn wr ∧ (c = true → curOf k m (l.take j) = some x) ∧ (c = false → curOf k m (l.take j) = none)) (fun _ i _ => l.length - (intOf i).toNat)
            case atStart => exact ⟨0, c, x, rfl, rfl, Nat.zero_le _, HBK.out, HF2.out, HC0.out.1, HC0.out.2⟩
            case round =>
              clear HBK HF2 HC0 hj h t1
              obtain ⟨i, c, x, rfl, rfl, hi, hb, hf, hc1, hc2⟩ := hrel
              have HBK := Lib.hid hb
              have HF2 := Lib.hid hf
              have HC := Lib.hid (And.intro hc1 hc2)
              clear hb hf hc1 hc2
              obtain ⟨b0, b1, b2, bf⟩ := cells3 HBK.out
              have bf0 := bf 0
              have bf1 := bf 1
              have bf2 := bf 2
              clear bf
              by_cases h : i < l.length
              · obtain ⟨e, he⟩ : ∃ e, l[i]? = some e := ⟨_, List.getElem?_eq_getElem h⟩
                obtain ⟨g1, o1, d1, e1, hg1, _, k1⟩ := EvIn.here (LIn.keep0 HL.out HF2.out) (by omega)
                cases e1
                obtain ⟨p0, p1, p2, p3⟩ := k1 i e he
                obtain ⟨g9, o9, d9, e9, hg9, _, _⟩ := EvIn.here HL.out (by omega)
                cases e9
                have n1 : ¬ g1 = wn.heap.size := by omega
                have n2 : ¬ wn.heap.size = g1 := by omega
                have HST := Lib.hid (curOf_snoc k m he)
                have t1 : decide (i < l.length) = true := by simpa using h
                clear he k1
                by_cases hk : e.key = k
                · have hk2 : e.key.toList = k.toList := by rw [hk]
                  have HK := Lib.hid hk
                  clear hk
                  go_wp2_with fail
                  go_region_held3 (fun w' => w'.cell? ⟨g1, o1 + i * 4, none⟩ = some (.int .i64 e.rev) ∧ w'.cell? ⟨g1, o1 + i * 4 + 2, none⟩ = some (.string e.val)) (go_keep) (fail)
                  go_wp2_with fail
                  go_roundw
                  case rel =>
                    refine ⟨i + 1, !e.del, ⟨k, e.val, e.rev, HK.out ▸ e.wf⟩, rfl, by go_num, by omega, set3_block HBK.out _ _ _, (HF2.out.drew).set3 (Nat.le_refl _) _ _ _, fun hc => ?_, fun hc => ?_⟩
                    · rw [HST.out, if_pos HK.out]
                      have hd : e.del = false := by simpa using hc
                      rw [hd]; simp [Ev.kv, HK.out]
                    · rw [HST.out, if_pos HK.out]
                      have hd : e.del = true := by simpa using hc
                      rw [hd]; rfl
                  case measure => simp [intOf]; omega
                · have hk2 : ¬ e.key.toList = k.toList := fun e => hk (bs_inj e)
                  have hk3 : (e.key.toList == k.toList) = false := by simpa using hk2
                  have HK := Lib.hid hk
                  go_wp2_with fail
                  go_roundw
                  case rel =>
                    refine ⟨i + 1, c, x, rfl, by go_num, by omega, HBK.out, HF2.out, fun hc => ?_, fun hc => ?_⟩
                    · rw [HST.out, if_neg HK.out]; exact HC.out.1 hc
                    · rw [HST.out, if_neg HK.out]; exact HC.out.2 hc
                  case measure => simp [intOf]; omega
              · have t1 : decide (i < l.length) = false := by simpa using h
                have HCE : Hid ((c = true → curOf k m l = some x) ∧ (c = false → curOf k m l = none)) := Lib.hid (by have := HC.out; rwa [List.take_of_length_le (by omega)] at this)
                have HKEY := Lib.hid (key_of (k := k) SRT.out l)
                have cmp := fun W => run_eql_kv x x W
                rw [kvB_eq.2 rfl] at cmp
                clear HC wk
                go_wp2_with (go_at_call 19; refine (event_fold _ _ m l _ (LIn.keep0 HM.out HF2.out) (LIn.keep0 HL.out HF2.out) SRT.out (by have := BM.out; unfold many; omega) (by have := BM.out; unfold many; omega)).mono ?_; rintro e w5 ⟨v5, rfl, h1, h2⟩; have HA := Lib.hid h1; have HG := Lib.hid (HF2.out.trans h2 (by simp)); replace HBK := Lib.hid (h2.keep HBK.out (by simp)); clear h1 h2; refine go_stop ?_)
                unfold Stop
                go_wp2_with (go_at_call 22; refine go_stop ?_)
                unfold Stop
                refine (event_restrict _ (foldK m l) k _ _ HA.out (by have := BF.out; unfold many; omega)).mono ?_
                rintro e w6 ⟨v6, rfl, h1, h2⟩
                have h3 : KvIn w6 v6 (restrictK k (k ++ ⟨#[0]⟩) (foldK m l)) := h1
                rw [HKEY.out] at h3
                replace HG := Lib.hid (HG.out.trans h2 (by simp))
                replace HBK := Lib.hid (h2.keep HBK.out (by simp))
                have HR := Lib.hid h3
                clear h1 h2 h3 HKEY
                obtain ⟨b0, b1, b2, _⟩ := cells3 HBK.out
                cases c
                · have HN : Hid (curOf k m l = none) := Lib.hid (HCE.out.2 rfl)
                  have hr := HR.out
                  rw [HN.out] at hr
                  obtain ⟨s6, c6, rfl, _, _⟩ := hr.form
                  clear hr
                  go_wp2_with fail
                  go_quiet (fail)
                  go_wp2
                  go_ret
                  exact ⟨rfl, ((HF.out.trans HG.out (by simp)).drewN _).below (Nat.le_refl _) (by simp)⟩
                · have HN : Hid (curOf k m l = some x) := Lib.hid (HCE.out.1 rfl)
                  have hr := HR.out
                  rw [HN.out] at hr
                  obtain ⟨g6, o6, c6, rfl, _, _, k6⟩ := KvIn.here hr (by simp)
                  obtain ⟨p0, p1, p2⟩ := k6 0 x rfl
                  simp only [Nat.zero_mul, Nat.add_zero] at p0 p1 p2
                  clear hr k6
                  go_wp2_with fail
                  go_quiet (fail)
                  go_wp2
                  go_ret
                  exact ⟨rfl, ((HF.out.trans HG.out (by simp)).drewN _).below (Nat.le_refl _) (by simp)⟩
    · have t2 : decide ((60 : Int) < (m.length : Int)) = true := by simp; omega
      go_enter Try.func8, Try.ntmps8
      go_wp2_with (first
        | (go_at_call 9; refine (event_awake _).mono ?_; rintro e w1 ⟨rfl, h1⟩; have HF := Lib.hid h1; replace HL := Lib.hid (LIn.keep0 HL.out HF.out); clear h1)
        | (go_at_call 10; refine (few_any _ _ _ HL.out).mono ?_; rintro e wn ⟨rfl, rfl⟩))
      go_ret
      exact ⟨rfl, HF.out.below (Nat.le_refl _) (by simp)⟩
  · go_enter Try.func8, Try.ntmps8
    go_wp2_with (first
      | (go_at_call 9; refine (event_awake _).mono ?_; rintro e w1 ⟨rfl, h1⟩; have HF := Lib.hid h1; replace HL := Lib.hid (LIn.keep0 HL.out HF.out); clear h1)
      | (go_at_call 10; refine (few_any _ _ _ HL.out).mono ?_; rintro e wn ⟨rfl, rfl⟩))
    go_ret
    exact ⟨rfl, HF.out.below (Nat.le_refl _) (by simp)⟩

set_option maxRecDepth 100000 in
theorem contract (H : Type) (enc : TypeId × Value → H) (W : World) (base : Nat) (args : Array Value) (ds gs : List (DataW H)) (before : List MemPlace)
    (hval0 : ∀ (j : Nat) t v, Try.f8.params[j]? = some t → args[j]? = some v → Value.okWide Try.prog W .any base t v)
    (hW : DataW.Whole enc Try.prog Try.f8.params.toList Rows.eventKeysSpec.vars false W args.toList ds gs before)
    (hsz : (DataW.weightsEach Try.prog (Try.f8.params.toList ++ Rows.eventKeysSpec.plain.varTypes Try.prog) (ds ++ gs)).all (· ≤ reachBytes) = true) :
    Calls Try.prog 8 args W fun e W' => ∃ v, e = .returned v ∧ Rows.eventKeysSpec.post enc Try.prog Try.f8 false true false false W args v W' := by
  have hval : ∀ (j : Nat) t v, Try.f8.params[j]? = some t → args[j]? = some v → Value.okWide Try.prog W .any base t v := hval0
  have hW' := hW
  obtain ⟨p, q, hA0, hV, rfl, hfz, hnd⟩ := hW
  have hA : DataW.TrodAll enc Try.prog W 0 (fun _ => true) true Try.f8.params.toList args.toList ds p := hA0
  rw [Try.params8] at hA hval
  obtain ⟨v0, vs0, d0, ds0, p0, q0, hargs, rfl, rfl, h0, r0⟩ := trodAll_cons hA
  obtain ⟨v1, vs1, d1, ds1, p1, q1, rfl, rfl, rfl, h1, r1⟩ := trodAll_cons r0
  obtain ⟨v2, vs2, d2, ds2, p2, q2, rfl, rfl, rfl, h2, r2⟩ := trodAll_cons r1
  obtain ⟨rfl, rfl, rfl⟩ := trodAll_nil r2
  obtain rfl : args = #[v0, v1, v2] := by cases args; simp_all
  obtain ⟨rfl, rfl⟩ := trodVars_none hV
  have k0 := h0
  have lt0 : ∀ x ∈ p0, x.block < W.heap.size := by obtain ⟨m, hm⟩ := k0; exact DataW.trod_lt m _ _ _ hm
  have k1 := h1
  have lt1 : ∀ x ∈ p1, x.block < W.heap.size := by obtain ⟨m, hm⟩ := k1; exact DataW.trod_lt m _ _ _ hm
  have k2 := h2
  have lt2 : ∀ x ∈ p2, x.block < W.heap.size := by obtain ⟨m, hm⟩ := k2; exact DataW.trod_lt m _ _ _ hm
  obtain ⟨m, hm⟩ := open_kvs (hval 0 33 v0 rfl rfl) h0
  obtain ⟨l, hl⟩ := open_events (hval 1 22 v1 rfl rfl) h1
  obtain ⟨k, rfl, rfl, _, wk⟩ := open_string Try.underlying9 (hval 2 9 v2 rfl rfl) h2
  have zk : k.size ≤ 140737488355328 := by have h1 := sized_string hsz (j := 2) rfl rfl; have h2 := reachBytes_lt; have h3 : k.data.toList.length = k.size := (by simp); omega
  clear hA0 hval0 hval
  refine (walk v0 v1 m l k W hm hl wk zk).mono fun e W' ⟨he, bel⟩ => ?_
  subst he
  exact ⟨_, rfl, _, _, _, [], _, [], hW', trodAll_mk1 (shut_bool Try.underlying4 _), (trodAll_cons_mk (Below.trod laid_prog (by kernel_rfl) (of_decide_eq_true (by kernel_rfl)) k0 bel lt0) (trodAll_cons_mk (Below.trod laid_prog (by kernel_rfl) (of_decide_eq_true (by kernel_rfl)) k1 bel lt1) (trodAll_cons_mk (Below.trod laid_prog (by kernel_rfl) (of_decide_eq_true (by kernel_rfl)) k2 bel lt2) trodAll_mk0))), rfl, bel.frame _, fun h => by cases h⟩

set_option maxRecDepth 100000 in
theorem lifted (os : Os) (started : os.Started) (H : Type) (enc : TypeId × Value → H) :
    ReturnsInHanded {} Try.checked os 8 .any (Rows.eventKeysSpec.pre6 enc Try.prog Try.f8 Rows.eventKeysRow.domain false) (Rows.eventKeysSpec.post enc Try.prog Try.f8 false true false false) := by
  refine returnsInHanded_of_change_sized (C := Try.checked) own_prog started (by kernel_rfl) Try.func8
    (ChangeSpec.witness6 (enc := enc) (C := Try.checked) false ⟨#[], #[.slice none 0 0, .slice none 0 0, .string ⟨#[]⟩], []⟩ 8 (by kernel_rfl) (by kernel_rfl) (by kernel_rfl) (by kernel_rfl)) ?_
  intro W base args ds gs before hval hW _ hsz _
  exact contract H enc W base args ds gs before hval hW hsz

theorem proved : Rows.EventKeysSaid :=
  OpenClaim.holds_of_wide 8 Try.f8 rfl rfl rfl rfl rfl rfl rfl ⟨rfl, rfl, rfl, rfl, rfl⟩ rfl rfl rfl rfl rfl (by kernel_rfl) Try.func8 (by kernel_rfl)
    (of_decide_eq_true (by kernel_rfl)) (by unfold Func.isWrapper; first | (rw [if_pos (by decide +kernel)]; kernel_rfl) | (rw [if_neg (by decide +kernel)]; exact ⟨rfl, rfl⟩))
    (fun os started H enc _ => lifted os started H enc)

end Go.Proofs.Ytadlccdmbnimaaa.lawEventKeys
