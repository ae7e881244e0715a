/- PACKAGE event: Last, Fold: contracts -/
import Derived.Test.YtmipllkgioakoaaGreatEvRis
namespace Go.Proofs.YtmipllkgioakoaaGreat
open Go.RowKit Go.Maps
set_option linter.unusedVariables false
set_option linter.unusedSimpArgs false

theorem last_snoc (k : ByteArray) (e : Ev) : ∀ l : List Ev, lastOf k (l ++ [e]) = if k = e.key then some e else lastOf k l
  | [] => by
    simp only [List.nil_append, lastOf]
    by_cases h : k = e.key
    · simp [h]
    · have : ¬ e.key = k := fun e => h e.symm
      simp [h, this]
  | x :: r => by
    rw [List.cons_append, lastOf_cons, last_snoc k e r, lastOf_cons]
    by_cases h : k = e.key
    · rw [if_pos h, if_pos h]
    · rw [if_neg h, if_neg h]
set_option maxHeartbeats 2000000 in
theorem event_last_new (lv : Value) (l : List Ev) (w : World) (hl : EvIn w lv l) (bl : l.length ≤ many) : Calls Tryz.prog 39 #[lv] w fun e w' => ∃ v, e = .returned v ∧ EvIn w' v (lastE l) ∧ Fr [] w w' ∧ ∀ k, v.ownBlock = some k → w.heap.size ≤ k := by
  unfold many at bl
  obtain ⟨s1, c1, rfl, la, ma⟩ := hl.form
  unfold maxLen at ma
  have HL := Lib.hid hl
  have hmm := @run_makeMap Tryz.prog
  have HMD := Lib.hid (MapS.made Ev.ag Tryz.prog 9 w)
  clear hl
  go_enter Tryz.func39, Tryz.ntmps39
  go_wp2_with fail

  go_loopw [9] (fun i wr => ∃ (j : Nat), i = .int .i64 j ∧ j ≤ l.length ∧ MapS Ev.ag Tryz.prog 9 wr w.heap.size j (fun k => lastOf k (l.take j)) ∧ Fr [] w wr) (fun i _ => l.length - (intOf i).toNat)
  case atStart => exact ⟨0, rfl, Nat.zero_le _, HMD.out, (Fr.refl _ _).alloc _⟩
  case round =>
    obtain ⟨j, rfl, hj, hm, hf⟩ := hrel
    have HM := Lib.hid hm
    have HF := Lib.hid hf
    clear hm hf
    by_cases h : j < l.length
    · obtain ⟨x, hx⟩ : ∃ x, l[j]? = some x := ⟨_, List.getElem?_eq_getElem h⟩
      obtain ⟨g, off, d1, e1, _, l1, k1⟩ := EvIn.here (LIn.keep0 HL.out HF.out) (by omega)
      simp only [Value.slice.injEq] at e1
      obtain ⟨rfl, _, rfl⟩ := e1
      obtain ⟨p0, p1, p2, p3⟩ := k1 j x hx
      have HX := Lib.hid hx
      obtain ⟨w5, hst, hm5, hf5⟩ := (HM.out.keep ((Fr.refl [] wr).alloc (Obj.cells #[.int .i64 x.rev, .string x.key, .string x.val, .bool x.del] 63)) (by simp)).store str_key map_ev (by unfold maxLen; omega) x.wf.1 x
      simp only [Ev.ag] at hst
      have HM5 := Lib.hid hm5
      have HF5 := Lib.hid ((HF.out.alloc _).trans hf5 (by simp))
      have t1 : decide (j < l.length) = true := by simpa using h
      clear hx k1 hm5 hf5
      go_wp2_with fail
      go_roundw
      case rel =>
        refine ⟨j + 1, by go_num, by omega, HM5.out.eq (fun k _ => ?_), HF5.out⟩
        rw [take_snoc HX.out, last_snoc]
      case measure => simp [intOf]; omega
    · have t1 : decide (j < l.length) = false := by simpa using h
      have hj2 : j = l.length := by omega
      subst hj2
      have hm := HM.out
      rw [List.take_length] at hm
      have HMM := Lib.hid hm
      clear hm
      go_wp2_with (go_at_call 56; refine (rising_ev _ l.length (fun k => lastOf k l) _ HMM.out (by unfold many; omega) (fun k x hx => (lastOf_some hx).2)).mono ?_; rintro e w2 ⟨v2, o, rfl, h1, h2, h3, h4, h5⟩; refine go_stop ?_)
      unfold Stop
      rw [lastE_of h2 h3] at h1
      have H1 := Lib.hid h1
      have H4 := Lib.hid (HF.out.trans h4 (by simp))
      have H5 : Hid (∀ k, v2.ownBlock = some k → w.heap.size ≤ k) := Lib.hid (fun k hk => Nat.le_trans HF.out.size (h5 k hk))
      clear h1 h2 h3 h4 h5
      go_wp2
      go_ret
      exact ⟨_, rfl, H1.out, H4.out, H5.out⟩
theorem event_last (lv : Value) (l : List Ev) (w : World) (hl : EvIn w lv l) (bl : l.length ≤ many) : Calls Tryz.prog 39 #[lv] w fun e w' => ∃ v, e = .returned v ∧ EvIn w' v (lastE l) ∧ Fr [] w w' :=
  (event_last_new lv l w hl bl).mono fun e w' ⟨v, h1, h2, h3, _⟩ => ⟨v, h1, h2, h3⟩
theorem mem_snoc {α : Type} {l : List α} {j : Nat} {x : α} (hx : l[j]? = some x) (y : α) : y ∈ l.take (j + 1) ↔ y ∈ l.take j ∨ y = x := by
  rw [take_snoc hx, List.mem_append, List.mem_singleton]
set_option maxHeartbeats 4000000 in
theorem event_fold_new (mv lv : Value) (m : List Kv) (l : List Ev) (w : World) (hm : KvIn w mv m) (hl : EvIn w lv l) (hs : Srt Kv.key m) (bm : m.length ≤ many) (bl : l.length ≤ many) : Calls Tryz.prog 29 #[mv, lv] w fun e w' => ∃ v, e = .returned v ∧ KvIn w' v (foldK m l) ∧ Fr [] w w' ∧ ∀ k, v.ownBlock = some k → w.heap.size ≤ k := by
  unfold many at bm bl
  obtain ⟨s1, c1, rfl, la1, ma1⟩ := hm.form
  obtain ⟨s2, c2, rfl, la2, ma2⟩ := hl.form
  unfold maxLen at ma1 ma2
  have HL := Lib.hid hl
  have HK := Lib.hid hm
  have HS := Lib.hid hs
  have hmm := @run_makeMap Tryz.prog
  have HMD := Lib.hid (MapS.made Kv.ag Tryz.prog 9 w)
  clear hl hm hs
  go_enter Tryz.func29, Tryz.ntmps29
  go_wp2_with fail
  go_loopw [13] (fun i wr => ∃ (j : Nat), i = .int .i64 j ∧ j ≤ m.length ∧ (∃ M, MapS Kv.ag Tryz.prog 9 wr w.heap.size j M ∧ ∀ k y, M k = some y ↔ y ∈ m.take j ∧ y.key = k) ∧ Fr [] w wr) (fun i _ => m.length - (intOf i).toNat)
  case atStart => exact ⟨0, rfl, Nat.zero_le _, ⟨_, HMD.out, by simp⟩, (Fr.refl _ _).alloc _⟩
  case round =>
    obtain ⟨j, rfl, hj, ⟨M, hm, hM⟩, hf⟩ := hrel
    have HM := Lib.hid hm
    have HMM := Lib.hid hM
    have HF := Lib.hid hf
    clear hm hf hM
    by_cases h : j < m.length
    · obtain ⟨x, hx⟩ : ∃ x, m[j]? = some x := ⟨_, List.getElem?_eq_getElem h⟩
      obtain ⟨g, off, d1, e1, _, l1, k1⟩ := KvIn.here (LIn.keep0 HK.out HF.out) (by omega)
      simp only [Value.slice.injEq] at e1
      obtain ⟨rfl, _, rfl⟩ := e1
      obtain ⟨p0, p1, p2⟩ := k1 j x hx
      have HX := Lib.hid hx
      obtain ⟨w5, hst, hm5, hf5⟩ := (HM.out.keep ((Fr.refl [] wr).alloc (Obj.cells #[.string x.key, .string x.val, .int .i64 x.rev] 83)) (by simp)).store str_key map_kv (by unfold maxLen; omega) x.wf.1 x
      simp only [Kv.ag] at hst
      have HM5 := Lib.hid hm5
      have HF5 := Lib.hid ((HF.out.alloc _).trans hf5 (by simp))
      have t1 : decide (j < m.length) = true := by simpa using h
      clear hx k1 hm5 hf5
      go_wp2_with fail
      go_roundw
      case rel =>
        refine ⟨j + 1, by go_num, by omega, ⟨_, HM5.out, fun k y => ?_⟩, HF5.out⟩
        rw [mem_snoc HX.out]
        have hxm : x ∈ m := List.mem_of_getElem? HX.out
        by_cases hk : k = x.key
        · rw [if_pos hk, Option.some.injEq]
          constructor
          · rintro rfl; exact ⟨Or.inr rfl, hk.symm⟩
          · rintro ⟨hy | rfl, hyk⟩
            · exact srt_one HS.out x hxm y (List.mem_of_mem_take hy) (by rw [hyk, hk])
            · rfl
        · rw [if_neg hk, HMM.out]
          constructor
          · rintro ⟨h1, h2⟩; exact ⟨Or.inl h1, h2⟩
          · rintro ⟨h1 | rfl, h2⟩
            · exact ⟨h1, h2⟩
            · exact absurd h2.symm hk
      case measure => simp [intOf]; omega
    · have t1 : decide (j < m.length) = false := by simpa using h
      have hj2 : j = m.length := by omega
      subst hj2
      obtain ⟨wb, hwb⟩ : ∃ wb, wb = wr := ⟨_, rfl⟩
      go_wp2_with fail
      go_loopw [24] (fun i wr => ∃ (j : Nat), i = .int .i64 j ∧ j ≤ l.length ∧ (∃ M, MapS Kv.ag Tryz.prog 9 wr w.heap.size (m.length + j) M ∧ ∀ k y, M k = some y ↔ y ∈ foldK m (l.take j) ∧ y.key = k) ∧ Fr [] w wr) (fun i _ => l.length - (intOf i).toNat)
      case atStart => exact ⟨0, rfl, Nat.zero_le _, ⟨_, HM.out, by have := HMM.out; rw [List.take_length] at this; exact this⟩, HF.out⟩
      case round =>
        clear HM HMM HF h t1 hwb wb
        obtain ⟨j, rfl, hj, ⟨M, hm, hM⟩, hf⟩ := hrel
        have HM := Lib.hid hm
        have HMM := Lib.hid hM
        have HF := Lib.hid hf
        clear hm hf hM
        by_cases h : j < l.length
        · obtain ⟨x, hx⟩ : ∃ x, l[j]? = some x := ⟨_, List.getElem?_eq_getElem h⟩
          obtain ⟨g, off, d1, e1, _, l1, k1⟩ := EvIn.here (LIn.keep0 HL.out HF.out) (by omega)
          simp only [Value.slice.injEq] at e1
          obtain ⟨rfl, _, rfl⟩ := e1
          obtain ⟨p0, p1, p2, p3⟩ := k1 j x hx
          have HX := Lib.hid hx
          have HST : Hid (foldK m (l.take (j + 1)) = oneK (foldK m (l.take j)) x) := Lib.hid (by rw [take_snoc hx, foldK_app]; rfl)
          have HMA := Lib.hid (HM.out.keep ((Fr.refl [] wr).alloc (Obj.cells #[.int .i64 x.rev, .string x.key, .string x.val, .bool x.del] 63)) (by simp))
          have t1 : decide (j < l.length) = true := by simpa using h
          clear hx k1
          cases hd : x.del
          · rw [hd] at p3
            have HD := Lib.hid hd
            clear hd
            rw [HD.out] at HMA
            obtain ⟨w5, hst, hm5, hf5⟩ := HMA.out.store str_key map_kv (by unfold maxLen; omega) x.wf.1 x.kv
            simp only [Kv.ag, Ev.kv] at hst
            have HM5 := Lib.hid hm5
            have HF5 := Lib.hid ((HF.out.alloc _).trans hf5 (by simp))
            clear hm5 hf5
            go_wp2_with fail
            go_roundw
            case rel =>
              refine ⟨j + 1, by go_num, by omega, ⟨_, HM5.out, fun k y => ?_⟩, HF5.out⟩
              rw [HST.out, mem_oneK]
              by_cases hk : k = x.key
              · rw [if_pos hk, Option.some.injEq]
                constructor
                · rintro rfl; exact ⟨Or.inr ⟨HD.out, rfl⟩, hk.symm⟩
                · rintro ⟨⟨_, hne⟩ | ⟨_, rfl⟩, hyk⟩
                  · exact absurd (hyk.trans hk) hne
                  · rfl
              · rw [if_neg hk, HMM.out]
                constructor
                · rintro ⟨h1, rfl⟩; exact ⟨Or.inl ⟨h1, hk⟩, rfl⟩
                · rintro ⟨⟨h1, _⟩ | ⟨_, rfl⟩, h2⟩
                  · exact ⟨h1, h2⟩
                  · exact absurd h2.symm hk
            case measure => simp [intOf]; omega
          · rw [hd] at p3
            have HD := Lib.hid hd
            clear hd
            rw [HD.out] at HMA
            go_wp2_with (at_delete; refine go_stop ?_)
            unfold Stop
            refine wpList_delete_mapS rfl _ _ 96 9 rfl 83 str_key map_kv _ _ M rfl HMA.out x.key rfl x.wf.1 ?dl
            case dl =>
            intro w5 hm5 hf5
            have HM5 := Lib.hid hm5
            have HF5 := Lib.hid ((HF.out.alloc _).trans hf5 (by simp))
            clear hm5 hf5
            go_wp2_with fail
            go_roundw
            case rel =>
              refine ⟨j + 1, by go_num, by omega, ⟨_, HM5.out.mono (by omega), fun k y => ?_⟩, HF5.out⟩
              rw [HST.out, mem_oneK, HD.out]
              by_cases hk : k = x.key
              · rw [if_pos hk]
                constructor
                · intro h; cases h
                · rintro ⟨⟨_, hne⟩ | ⟨h0, _⟩, hyk⟩
                  · exact absurd (hyk.trans hk) hne
                  · cases h0
              · rw [if_neg hk, HMM.out]
                constructor
                · rintro ⟨h1, rfl⟩; exact ⟨Or.inl ⟨h1, hk⟩, rfl⟩
                · rintro ⟨⟨h1, _⟩ | ⟨h0, _⟩, h2⟩
                  · exact ⟨h1, h2⟩
                  · cases h0
            case measure => simp [intOf]; omega
        · have t1 : decide (j < l.length) = false := by simpa using h
          have hj2 : j = l.length := by omega
          subst hj2
          go_wp2_with (go_at_call 51; refine (rising_kv _ (m.length + l.length) M _ HM.out (by unfold many; omega) (fun k x hx => ((HMM.out k x).1 hx).2)).mono ?_; rintro e w2 ⟨v2, o, rfl, h1, h2, h3, h4, h5⟩; refine go_stop ?_)
          unfold Stop
          have he : o = foldK m l := srt_ext h2 (srt_foldK HS.out) (fun x => by rw [h3, HMM.out, List.take_length]; simp)
          rw [he] at h1
          have H1 := Lib.hid h1
          have H4 := Lib.hid (HF.out.trans h4 (by simp))
          have H5 : Hid (∀ k, v2.ownBlock = some k → w.heap.size ≤ k) := Lib.hid (fun k hk => Nat.le_trans HF.out.size (h5 k hk))
          clear h1 h2 h3 h4 h5 he
          go_wp2
          go_ret
          exact ⟨_, rfl, H1.out, H4.out, H5.out⟩
theorem event_fold (mv lv : Value) (m : List Kv) (l : List Ev) (w : World) (hm : KvIn w mv m) (hl : EvIn w lv l) (hs : Srt Kv.key m) (bm : m.length ≤ many) (bl : l.length ≤ many) : Calls Tryz.prog 29 #[mv, lv] w fun e w' => ∃ v, e = .returned v ∧ KvIn w' v (foldK m l) ∧ Fr [] w w' :=
  (event_fold_new mv lv m l w hm hl hs bm bl).mono fun e w' ⟨v, h1, h2, h3, _⟩ => ⟨v, h1, h2, h3⟩
end Go.Proofs.YtmipllkgioakoaaGreat
